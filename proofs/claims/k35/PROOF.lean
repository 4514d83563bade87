import PyProof.Rows.All
import Wide.All
import OpenK.AllK
import Wide.FinOn
import Lean
import PyProof.EqAt
import PyProof.EqKinds
import PyProof.TupleCall
import PySem.Challenge.RW_lostblock_k35_whole_plan_prints_states
set_option Elab.async false
set_option linter.all false
set_option maxRecDepth 100000
def PySem.W.Fast.tw15150535941626716801:=()
def PySem.W.Fast.tw6366990938759093055:=()
def PySem.W.Fast.tw8745545221553718950:=()
def PySem.W.Fast.tw6742597346696555130:=()
def PySem.W.Fast.tw2107717830226832563:=()
def PySem.W.Fast.tw9639010594546132563:=()
def PySem.W.Fast.tw3143461622159257596:=()
def PySem.W.Fast.tw9539192023231655096:=()
def PySem.W.Fast.tw13244056793253387559:=()
def PySem.W.Fast.tw9870634601421626331:=()
def PySem.W.Fast.tw151070047619021176:=()
def PySem.W.Fast.tw16863116378623276960:=()
def PySem.W.Fast.tw4178864426939435272:=()
def PySem.W.Fast.tw17976393566996297636:=()
def PySem.W.Fast.tw3463430657553462982:=()
def PySem.W.Fast.tw5242376546872270431:=()
def PySem.W.Fast.tw4179203636632348133:=()
def PySem.W.Fast.tw16272701946126570805:=()
def PySem.W.Fast.tw16724624473260863769:=()
def PySem.W.Fast.tw11817977108066530620:=()
def PySem.W.Fast.tw15420483138729864362:=()
def PySem.W.Fast.tw14945386140231765575:=()
def PySem.W.Fast.tw1942282627991766255:=()
def PySem.W.Fast.tw15100950130476955846:=()
def PySem.W.Fast.tw1196089528996101471:=()
def PySem.W.Fast.tw449311404802056841:=()
def PySem.W.Fast.tw5195682166173561304:=()
def PySem.W.Fast.tw10061932938847419900:=()
def PySem.W.Fast.tw6156455684785769507:=()
def PySem.W.Fast.tw1259572318510951073:=()
def PySem.W.Fast.tw15045009262081266111:=()
def PySem.W.Fast.tw11502712089879086326:=()
def PySem.W.Fast.tw10496071534312181678:=()
def PySem.W.Fast.tw11090932515773478720:=()
def PySem.W.Fast.tw13315969343934844371:=()
def PySem.W.Fast.tw17281651934264964865:=()
def PySem.W.Fast.tw12570266099244635704:=()
def PySem.W.Fast.tw15357462729582828873:=()
def PySem.W.Fast.tw178438864666856556:=()
def PySem.W.Fast.tw6439704557437015104:=()
def PySem.W.Fast.tw2906065029230273939:=()
def PySem.W.Fast.tw11173658115141038569:=()
def PySem.W.Fast.tw6330790684603421018:=()
def PySem.W.Fast.tw7880872410265931747:=()
def PySem.W.Fast.tw14993372070511624382:=()
def PySem.W.Fast.tw5336522458189085573:=()
def PySem.W.Fast.tw16944949939368667298:=()
def PySem.W.Fast.tw17634872058477896703:=()
def PySem.W.Fast.tw4948046229633592631:=()
def PySem.W.Fast.tw8792717591992818789:=()
def PySem.W.Fast.tw7415047739796149278:=()
def PySem.W.Fast.tw11721780550961628921:=()
def PySem.W.Fast.tw2148743183086906176:=()
def PySem.W.Fast.tw16178886305562081538:=()
def PySem.W.Fast.tw18125695345693976400:=()
def PySem.W.Fast.tw11204725296982794069:=()
def PySem.W.Fast.tw13387937086875216381:=()
def PySem.W.Fast.tw1261540972964734439:=()
def PySem.W.Fast.tw4332310462406416893:=()
def PySem.W.Fast.tw5808805057745051749:=()
def PySem.W.Fast.tw7779273492484717390:=()
def PySem.W.Fast.tw10802297419513585836:=()
def PySem.W.Fast.tw1187566865694455360:=()
def PySem.W.Fast.tw14131491938287152650:=()
def PySem.W.Fast.tw6384461410963462347:=()
def PySem.W.Fast.tw15125027615935329379:=()
local macro_rules|`(tactic|walk_at "s")=>`(tactic|exact⟨rfl,rfl,rfl,by decide +kernel,rfl,by decide +kernel,by decide +kernel⟩)
local macro_rules|`(command| def $d:declId $s:optDeclSig $v:declVal)=>`(command| noncomputable def $d:declId $s:optDeclSig $v:declVal)
open PySem.W (Frag keepIn fnOf codeIn nsIn)
def Zaa:=@PySem.wpAny_bind
def Zab:=@List.length_map
def Zac:=@List.getElem?_eq_some_iff
def Zad:=@List.getElem?_map
def Zae:=@List.getElem?_eq_getElem
def Zaf:=@Option.some.inj
def Zag:=@List.mem_map
def Zah:=@List.mem_of_getElem?
def Zai:=@PySem.Heap.get?_push_of_some
def Zaj:=@PySem.wpAny_pure
def Zak:=@List.getElem?_append_left
def Zal:=@Nat.le_refl
def Zam:=@if_neg
def Zan:=@if_pos
def Zao:=@List.getD_eq_getElem?_getD
def Zap:=@List.map_cons
def Zaq:=@List.mem_cons_of_mem
def Zar:=@PySem.Heap.get?_push_size
def Zas:=@List.getElem?_append_right
def Zat:=@PySem.Heap.lt_size
def Zau:=@List.mem_filter
def Zav:=@List.mem_range
def Zaw:=@List.mem_cons_self
def Zax:=@List.getElem?_set_ne
def Zay:=@List.length_range
def Zaz:=@PySem.W.mg_of
def ZaA:=@List.mem_cons
def ZaB:=@Nat.le_of_lt
def ZaC:=@List.length_append
def ZaD:=@Int.toNat_natCast
def ZaE:=@Nat.ne_of_lt
def ZaF:=@decide_eq_true
def ZaG:=@List.map_map
def ZaH:=@Nat.lt_of_lt_of_le
def ZaI:=@Nat.le_trans
def ZaJ:=@List.map_append
def ZaK:=@List.mem_append
def ZaL:=@PySem.PassesOwn.never
def ZaM:=@decide_eq_false
def ZaN:=@List.mem_append_right
def ZaO:=@List.length_filter_le
def ZaP:=@List.all_eq_true
def ZaQ:=@List.length_cons
def ZaR:=@List.getElem?_eq_none
def ZaS:=@Array.getElem?_eq_getElem
def ZaT:=@PySem.F.plainAttrs_list
def ZaU:=@Int.natCast_nonneg
def ZaV:=@PySem.F.slot_list_append
def ZaW:=@List.getElem?_of_mem
def ZaX:=@Int.emod_lt_of_pos
def ZaY:=@PySem.W.mg_none_of
def ZaZ:=@Array.length_toList
def Za0:=@Array.getD_eq_getD_getElem?
def Za1:=@List.append_nil
def Za2:=@Int.eq_ofNat_of_zero_le
def Za3:=@congrArg
def Za4:=@List.getElem?_range
def Za5:=@PySem.wpAny_newObj_type
def Za6:=@List.map_congr_left
def Za7:=@Nat.zero_le
def Za8:=@List.filter_sublist
def Za9:=@PySem.F.slot_dict_itemiterator_next
def Zba:=@if_false
def Zbb:=@Int.emod_nonneg
def Zbc:=@PySem.F.slot_dict_keyiterator_next
def Zbd:=@List.pairwise_map
def Zbe:=@List.getElem?_set_self
def Zbf:=@List.mem_singleton
def Zbg:=@List.getElem?_toArray
def Zbh:=@List.contains_iff_mem
def Zbi:=@List.nodup_append
def Zbj:=@Ne.symm
def Zbk:=@Bool.false_ne_true
def Zbl:=@Option.map_eq_some_iff
def Zbm:=@Array.getElem?_toList
def Zbn:=@PySem.wpAny_mono
def Zbo:=@PyProof.Rows.callWith_type1
def Zbp:=@List.nodup_cons
def Zbq:=@List.getElem?_replicate
def Zbr:=@Nat.lt_of_le_of_lt
def Zbs:=@Bool.false_eq_true
def Zbt:=@Option.map_some
def Zbu:=@List.pairwise_cons
def Zbv:=@List.mem_append_left
def Zbw:=@if_true
def Zbx:=@Int.toNat_of_nonneg
def Zby:=@List.append_assoc
def Zbz:=@List.filter_eq_self
def ZbA:=@PySem.F.slot_dict_get
def ZbB:=@List.not_mem_nil
def ZbC:=@List.filter_cons
def ZbD:=@PySem.F.plainAttrs_dict
def ZbE:=@List.ext_getElem?
def ZbF:=@PySem.W.kia_one
def ZbG:=@List.cons.injEq
def ZbH:=@PySem.Heap.SameBut.update
def ZbI:=@Nat.not_lt_zero
def ZbJ:=@List.nodup_range
def ZbK:=@PySem.Calls.spliced_cons
def ZbL:=@List.length_replicate
def ZbM:=@Option.isSome_some
def ZbN:=@List.Nodup.sublist
def ZbO:=@Nat.le_succ
def ZbP:=@List.getElem?_eq_none_iff
def ZbQ:=@List.drop_eq_getElem_cons
def ZbR:=@List.pairwise_iff_getElem
def ZbS:=@PyProof.Rows.slot_tuple_getitem
def ZbT:=@List.getElem?_set
def ZbU:=@Nat.lt_irrefl
def ZbV:=@PySem.mem_of_lookup
def ZbW:=@PySem.F.slot_dict_items
def ZbX:=@List.flatten_append
def ZbY:=@Bool.and_eq_true
def ZbZ:=@List.getElem_mem
def Zb0:=@PySem.Calls.callWith_builtin
def Zb1:=@PySem.F.entry_dict_get
def Zb2:=@Array.getElem?_eq_none
def Zb3:=@Option.isSome_none
def Zb4:=@Sum.inl.inj
def Zb5:=@Nat.ne_of_gt
def Zb6:=@Bool.eq_iff_iff
def Zb7:=@List.find?_cons
def Zb8:=@List.any_cons
def Zb9:=@List.getElem?_inj
def Zca:=@PySem.Calls.evalArgs_plain
def Zcb:=@List.getElem?_mapIdx
def Zcc:=@PySem.F.args_dict_itemiterator_next_1
def Zcd:=@List.mem_erase_of_ne
def Zce:=@List.pairwise_append
def Zcf:=@Nat.and_two_pow_sub_one_of_lt_two_pow
def Zcg:=@PySem.F.slot_tuple_getattribute
def Zch:=@PySem.Calls.call_function_entry
def Zci:=@PySem.F.args_dict_keyiterator_next_1
def Zcj:=@PySem.F.entry_dict_itemiterator_next
def Zck:=@List.length_take
def Zcl:=@List.lookup_cons
def Zcm:=@List.mem_flatten
def Zcn:=@PySem.F.entry_dict_keyiterator_next
def Zco:=@PySem.F.slot_list_getattribute
def Zcp:=@List.length_erase_of_mem
def Zcq:=@List.length_nil
def Zcr:=@List.getElem?_cons_succ
def Zcs:=@List.range_succ
def Zct:=@Option.map_none
def Zcu:=@Nat.testBit_and
def Zcv:=@PySem.Calls.spliced_nil
def Zcw:=@List.map_nil
def Zcx:=@Bool.beq_eq_decide_eq
def Zcy:=@Nat.sub_self
def Zcz:=@List.Perm.append_left
def ZcA:=@Nat.le_add_right
def ZcB:=@List.take_length
def ZcC:=@PySem.Paired.length
def ZcD:=@PySem.F.slot_dict_setdefault
def ZcE:=@PySem.F.slot_dict_items_iter
def ZcF:=@List.countP_eq_length_filter
def ZcG:=@List.filterMap_cons
def ZcH:=@Nat.two_pow_pos
def ZcI:=@Int.fdiv_eq_ediv_of_nonneg
def ZcJ:=@Array.perm_iff_toList_perm
def ZcK:=@Nat.mod_two_eq_zero_or_one
def ZcL:=@List.filter_append
def ZcM:=@List.nodup_nil
def ZcN:=@List.drop_zero
def ZcO:=@PySem.F.args_dict_items_1
def ZcP:=@Array.size_map
def ZcQ:=@Int.mul_le_mul
def ZcR:=@Nat.lt_succ_of_lt
def ZcS:=@Option.isSome_map
def ZcT:=@Option.some.injEq
def ZcU:=@List.filter_congr
def ZcV:=@List.flatten_cons
def ZcW:=@Nat.pow_pos
def ZcX:=@Nat.lt_succ_self
def ZcY:=@List.drop_length
def ZcZ:=@List.any_eq_true
def Zc0:=@List.of_mem_zip
def Zc1:=@Nat.le_of_eq
def Zc2:=@List.foldl_cons
def Zc3:=@Nat.lt_or_ge
def Zc4:=@Nat.le_antisymm
def Zc5:=@Int.mul_nonneg
def Zc6:=@Nat.mul_le_mul
def Zc7:=@Prod.ext
set_option compiler.extract_closed false
set_option bootstrap.genMatcherCode false
set_option genSizeOf false
local macro_rules|`(tactic| omega)=>`(tactic| first|(grind only)|omega (config:={}))
local macro_rules|`(tactic| lia)=>`(tactic| first|lia -verbose|omega (config:={}))
namespace L2
open PySem PySem.Spec PyProof.Rows
noncomputable abbrev Key:=Sum Int Str
def Fd:Key->Value->Bool
 |.inl k,v=>Value.isInt k v
 |.inr x,v=>Value.isStrOf x v
def aaG(w:World):Key->Int
 |.inl k=>hashInt k
 |.inr x=>hashStr w x
theorem dI:∀ {k:Key}{v:Value},Fd k v=true->(∃ i t,k=Sum.inl i/\v=Value.int i t)\/(∃ x t,k=Sum.inr x/\v=Value.str x t)
 |.inl i,v,h=>by
  obtain⟨t,e⟩:=Value.isInt_shape (k:=i) (v:=v) h;exact .inl ⟨i,t,rfl,e⟩
 |.inr x,v,h=>by
  obtain⟨t,e⟩:=Value.isStrOf_shape (x:=x) (v:=v) h;exact .inr ⟨x,t,rfl,e⟩
theorem QC(i:Int)(t:Tok):Fd (.inl i) (.int i t)=true:=by simp[Fd,Value.isInt]
theorem QD(x:Str)(t:Tok):Fd (.inr x) (.str x t)=true:=by simp[Fd,Value.isStrOf]
theorem Yj(a b:Int):decide ((Sum.inl a:Key)=Sum.inl b)=(a==b):=by
 by_cases e:a=b
 ·subst e;simp
 ·have h:¬(Sum.inl a:Key)=Sum.inl b:=λq=>e (Zb4 q);rw[ZaM h];exact(beq_eq_false_iff_ne.mpr e).symm
theorem Yk(a b:Str):decide ((Sum.inr a:Key)=Sum.inr b)=decide (a=b):=by
 by_cases e:a=b
 ·subst e;simp
 ·have h:¬(Sum.inr a:Key)=Sum.inr b:=λq=>e (Sum.inr.inj q);rw[ZaM h,ZaM e]
theorem Yl(a:Int)(b:Str):decide ((Sum.inl a:Key)=Sum.inr b)=false:=ZaM (λq=>nomatch q)
theorem Ym(a:Str)(b:Int):decide ((Sum.inr a:Key)=Sum.inl b)=false:=ZaM (λq=>nomatch q)
def bV(prog:Program)(w:World):PySem.KeyKind prog w Key where
 is:=Fd
 hash:=aaG w
 inj:=λv a b ha hb=>by
  rcases dI ha with⟨i,t,rfl,rfl⟩|⟨x,t,rfl,rfl⟩
  ·rcases dI hb with⟨j,u,rfl,e⟩|⟨y,u,rfl,e⟩
   ·injection e with e1 _;rw[e1]
   ·exact nomatch e
  ·rcases dI hb with⟨j,u,rfl,e⟩|⟨y,u,rfl,e⟩
   ·exact nomatch e
   ·injection e with e1 _;rw[e1]
 byValue:=λk v h=>by
  rcases dI h with⟨i,t,rfl,rfl⟩|⟨x,t,rfl,rfl⟩<;>rfl
 pyHash:=λhv h=>by
  rcases dI hv with⟨i,t,rfl,rfl⟩|⟨x,t,rfl,rfl⟩
  ·exact wpAny_pyHash_int h
  ·exact wpAny_pyHash_str h
 eqBool:=λhu hv h=>by
  rcases dI hu with⟨i,t,rfl,rfl⟩|⟨x,t,rfl,rfl⟩
  ·rcases dI hv with⟨j,u,rfl,rfl⟩|⟨y,u,rfl,rfl⟩
   ·rw[Yj] at h;exact wpAny_eqBool_int h
   ·rw[Yl] at h;exact SeqAt.EqAt.int_str i t y u _ _ _ _ h
  ·rcases dI hv with⟨j,u,rfl,rfl⟩|⟨y,u,rfl,rfl⟩
   ·rw[Ym] at h;exact SeqAt.EqAt.str_int x t j u _ _ _ _ h
   ·rw[Yk] at h;exact wpAny_eqBool_str h
 «strs»:=λk x t v h=>by
  rcases dI h with⟨i,u,rfl,e⟩|⟨y,u,rfl,e⟩
  ·exact nomatch e
  ·injection e with e1 _
   subst e1;cases v<;>rfl
theorem Jf(prog:Program)(w:World)(i:Int)(t:Tok):(bV prog w).is (.inl i) (.int i t)=true:=QC i t
theorem Jg(prog:Program)(w:World)(x:Str)(t:Tok):(bV prog w).is (.inr x) (.str x t)=true:=QD x t
inductive V where
 |non|bl (b:Bool)|int (i:Int)|str (x:Str)|byt (b:Array UInt8)|flt (b:UInt64)|ref (a:Addr)|ty (n:String)
 deriving DecidableEq
def RelV:V->Value->Prop
 |.non,u=>u=Value.none
 |.bl b,u=>u=Value.bool b
 |.int i,u=>∃ t,u=Value.int i t
 |.str x,u=>∃ t,u=Value.str x t
 |.byt b,u=>∃ t,u=Value.bytes b t
 |.flt b,u=>∃ t,u=Value.float b t
 |.ref a,u=>u=Value.ref a
 |.ty n,u=>u=Value.type n
noncomputable abbrev Vals:List V->List Value->Prop:=Paired RelV
theorem Vals.length{xs:List V}{us:List Value}(r:Vals xs us):xs.length=us.length:=ZcC r
theorem Vals.get:∀ {xs:List V}{us:List Value}{i:Nat}{x:V},Vals xs us->xs[i]?=some x->∃ u,us[i]?=some u/\RelV x u
 |_,_,_,_,.nil,e=>by simp at e
 |_,_,0,_,.cons r _,e=>by simp at e;subst e;exact⟨_,rfl,r⟩
 |_,_,i+1,x,.cons _ t,e=>by
  obtain⟨u,h1,h2⟩:=Vals.get (i:=i) (x:=x) t (by simpa using e)
  exact⟨u,by simpa using h1,h2⟩
theorem Vals.append:∀ {xs ys:List V}{us ws:List Value},Vals xs us->Vals ys ws->Vals (xs++ys) (us++ws)
 |_,_,_,_,.nil,s=>s
 |_,_,_,_,.cons r t,s=>.cons r (Vals.append t s)
theorem Vals.take:∀ {xs:List V}{us:List Value} (n:Nat),Vals xs us->Vals (xs.take n) (us.take n)
 |_,_,0,_=>.nil
 |_,_,_+1,.nil=>.nil
 |_,_,n+1,.cons r t=>.cons r (Vals.take n t)
theorem Vals.drop:∀ {xs:List V}{us:List Value} (n:Nat),Vals xs us->Vals (xs.drop n) (us.drop n)
 |_,_,0,r=>r
 |_,_,_+1,.nil=>.nil
 |_,_,n+1,.cons _ t=>Vals.drop n t
def zR:Option V->Option Value->Prop
 |some v,some u=>RelV v u
 |none,none=>True
 |_,_=>False
def KV{κ:Type}:List (κ×V)->List (κ×Value)->Prop:=Paired λ(p:κ×V) (q:κ×Value)=>p.1=q.1/\RelV p.2 q.2
def kV:Key->V
 |.inl i=>.int i
 |.inr x=>.str x
inductive HO where
 |lst (xs:List V)
 |tup (xs:List V)
 |dK (kvs:List (Key×V))|dT (kvs:List (List Key×V))
 |set (S:Int->Bool) (n:Nat)
 |ins (C dx:Addr) (fs:List (Str×V))
 |own (x:Addr)
 |xd (fs:List (Str×V))
 |met (f x:Addr)
 |rng (lo hi:Int)
 |frz (o:Obj) (u:HO)
 |tbl (ps:Array Value)
 |ext (φ:Heap->Prop)
noncomputable abbrev Hp:=Addr->Option HO
def upd(H:Hp)(a:Addr)(o:HO):Hp:=λb=>if b=a then some o else H b
theorem aP{H:Hp}{a:Addr}{o:HO}:upd H a o a=some o:=by unfold upd;rw[Zan rfl]
theorem aL{H:Hp}{a b:Addr}{o:HO}(h:b≠a):upd H a o b=H b:=by unfold upd;rw[Zam h]
theorem RZ{H:Hp}{a b:Addr}{o u:HO}(h:H a=some o)(h':H b=some u)(d:o≠u):a≠b:=by
 intro e;subst e;rw[h] at h';exact d (Zaf h')
theorem cj{H:Hp}{a b:Addr}{o:HO}(h:H a=some o)(h':H b=none):a≠b:=by
 intro e;subst e;rw[h] at h';cases h'
def gA(h:Heap)(a:Addr)(items:Array Value):Prop:=IsTup h a items/\∀ o,h.get? a=some o->o.dict=none
theorem gA.new(h:Heap)(items:Array Value):gA (h.push { cls:=.type "tuple",data:=.seq items }) h.objs.size items:=⟨IsTup.new h items,λo e=>by rw[Zar _ rfl] at e;cases e;rfl⟩
theorem gA.mk{h:Heap}{a:Addr}{items:Array Value}{n:Nat}(e:h.get? a=some { cls:=.type "tuple",data:=.seq items n }):gA h a items:=⟨⟨_,e,rfl,_,rfl⟩,λo q=>by rw[e] at q;cases q;rfl⟩
theorem gA.lt{h:Heap}{a:Addr}{items:Array Value}(x:gA h a items):a<h.objs.size:=x.1.lt
theorem gA.at'{h h':Heap}{a:Addr}{items:Array Value}(x:gA h a items)(e:∀ o,h.get? a=some o->h'.get? a=some o):gA h' a items:=by
 obtain⟨⟨o,h1,r⟩,d⟩:=x;exact⟨⟨o,e o h1,r⟩,λu q=>by rw[e o h1] at q;cases q;exact d o h1⟩
section
variable(P:Program)(w:World)
def dB(H:Hp)(h:Heap)(a:Addr):HO->Prop
 |.lst xs=>xs.length<=sizeLine/\∃ (its:List Value) (n:Nat),Vals xs its/\h.get? a=some { cls:=.type "list",data:=.seq its.toArray n }
 |.tup xs=>xs.length<=sizeLine/\∃ its:List Value,Vals xs its/\gA h a its.toArray
 |.dK kvs=>kvs.length<=sizeLine/\(a==sysModules)=false/\∃ vs,KV kvs vs/\h.DictOf (bV P w) a vs
 |.dT kvs=>kvs.length<=sizeLine/\(a==sysModules)=false/\∃ xs:List (List Key×Addr×Value),
   Paired (λ(p:List Key×V) (q:List Key×Addr×Value)=>p.1=q.1/\H q.2.1=some (.tup (p.1.map kV))/\RelV p.2 q.2.2) kvs xs /\
   ∃ o es ep,h.get? a=some o/\o.ExactDict/\o.data=.dict es ep/\es.toList=xs.map (entryOfKey (tupleKind (bV P w)))/\(xs.map (·.1)).Nodup
 |.set S n=>h.SetOf (intKind P w) a S n
 |.ins C dx fs=>H dx=some (.own a)/\fs.length<=1000/\dx≠a/\h.get? a=some (PySem.W.instObj C dx) /\
   ∃ mA,h.Ns1 dx mA/\(∀ f,zR (fs.lookup f) (mA f))/\PySem.Within mA (fs.map (·.1))
 |.own _=>∃ o,h.get? a=some o
 |.xd fs=>∃ mA,h.Ns1 a mA/\∀ f,zR (fs.lookup f) (mA f)
 |.rng lo hi=>∃ t u v,h.get? a=some { cls:=.type "range",data:=.fields #[.int lo t,.int hi u,.int 1 v] }
 |.frz o u=>h.get? a=some o/\dB H h a u
 |.tbl ps=>h.get? a=some { cls:=.none,data:=.fields ps }
 |.met f x=>h.get? a=some (PySem.W.methodObj (.ref f) (.ref x))
 |.ext φ=>φ h/\(∃ o,h.get? a=some o)/\∀ h1 h2:Heap,φ h1->(∀ o,h1.get? a=some o->h2.get? a=some o)->φ h2
def HOk(H:Hp)(h:Heap):Prop:=∀ a o,H a=some o->dB P w H h a o
end
section
variable{P:Program}{w:World}{H H':Hp}{h h':Heap}{a:Addr}{o:HO}
theorem dB.lt(x:dB P w H h a o):a<h.objs.size:=by
 cases o with
 |lst xs=>obtain⟨_,_,_,_,e⟩:=x;exact Zat e
 |tup xs=>obtain⟨_,_,_,p⟩:=x;exact p.lt
 |dK kvs=>obtain⟨_,_,_,_,o,_,_,e,_⟩:=x;exact Zat e
 |dT kvs=>obtain⟨_,_,_,_,o,_,_,e,_⟩:=x;exact Zat e
 |set S n=>obtain⟨o,_,_,_,e,_⟩:=x;exact Zat e
 |ins C dx fs=>obtain⟨_,_,_,e,_⟩:=x;exact Zat e
 |own y=>obtain⟨_,e⟩:=x;exact Zat e
 |xd fs=>obtain⟨_,⟨_,_,_,e,_⟩,_⟩:=x;exact Zat e
 |rng lo hi=>obtain⟨_,_,_,e⟩:=x;exact Zat e
 |frz ob u=>obtain⟨e,_⟩:=x;exact Zat e
 |tbl ps=>exact Zat (show h.get? a=some _ from x)
 |met f y=>exact Zat (show h.get? a=some _ from x)
 |ext φ=>obtain⟨_,⟨_,e⟩,_⟩:=x;exact Zat e
theorem Paired.Yn{α β:Type}{F G:α->β->Prop}:∀ {l₁:List α}{l₂:List β},Paired F l₁ l₂->(∀ a b,F a b->G a b)->Paired G l₁ l₂
 |_,_,.nil,_=>.nil
 |_,_,.cons r t,f=>.cons (f _ _ r) (Paired.Yn t f)
theorem dB.stay(x:dB P w H h a o)(k:∀ b u,(b=a\/H b=some (.own a))->h.get? b=some u->h'.get? b=some u)
  (ho:∀ b,H b=some (.own a)->H' b=some (.own a))(ht:∀ b xs,H b=some (.tup xs)->H' b=some (.tup xs)):dB P w H' h' a o:=by
 induction o with
 |lst xs=>obtain⟨z,its,n,r,e⟩:=x;exact⟨z,its,n,r,k _ _ (.inl rfl) e⟩
 |tup xs=>obtain⟨z,its,r,c⟩:=x;exact⟨z,its,r,c.at' λo e=>k _ _ (.inl rfl) e⟩
 |dK kvs=>obtain⟨z,y,vs,r,ob,es,ep,e,c⟩:=x;exact⟨z,y,vs,r,ob,es,ep,k _ _ (.inl rfl) e,c⟩
 |dT kvs=>
  obtain⟨z,y,xs,r,ob,es,ep,e,c⟩:=x;exact⟨z,y,xs,Paired.Yn r λp q z=>⟨z.1,ht _ _ z.2.1,z.2.2⟩,ob,es,ep,k _ _ (.inl rfl) e,c⟩
 |set S n=>obtain⟨ob,es,ep,t,e,c⟩:=x;exact⟨ob,es,ep,t,k _ _ (.inl rfl) e,c⟩
 |ins C dx fs=>
  obtain⟨d,z,ne,e,mA,⟨od,es,ep,e2,c⟩,r⟩:=x;exact⟨ho _ d,z,ne,k _ _ (.inl rfl) e,mA,⟨od,es,ep,k _ _ (.inr d) e2,c⟩,r⟩
 |own y=>obtain⟨ob,e⟩:=x;exact⟨ob,k _ _ (.inl rfl) e⟩
 |xd fs=>obtain⟨mA,⟨od,es,ep,e,c⟩,r⟩:=x;exact⟨mA,⟨od,es,ep,k _ _ (.inl rfl) e,c⟩,r⟩
 |rng lo hi=>obtain⟨t,u,v,e⟩:=x;exact⟨t,u,v,k _ _ (.inl rfl) e⟩
 |frz ob u ih=>obtain⟨e,q⟩:=x;exact⟨k _ _ (.inl rfl) e,ih q⟩
 |tbl ps=>
  have e:h.get? a=some { cls:=.none,data:=.fields ps }:=x;show h'.get? a=some { cls:=.none,data:=.fields ps }
  exact k a _ (.inl rfl) e
 |met f y=>
  have e:h.get? a=some (PySem.W.methodObj (.ref f) (.ref y)):=x;show h'.get? a=some (PySem.W.methodObj (.ref f) (.ref y))
  exact k a _ (.inl rfl) e
 |ext φ=>obtain⟨p,⟨o,e⟩,st⟩:=x;exact⟨st _ _ p λo q=>k _ _ (.inl rfl) q,⟨o,k _ _ (.inl rfl) e⟩,st⟩
theorem HOk.lt(x:HOk P w H h)(e:H a=some o):a<h.objs.size:=(x a o e).lt
theorem HOk.fresh(x:HOk P w H h)(e:h.objs.size<=a):H a=none:=by
 cases q:H a with
 |none=>rfl
 |some u=>exact absurd (ZaH (x.lt q) e) (ZbU _)
theorem HOk.kept(x:HOk P w H h)(k:∀ b u,h.get? b=some u->h'.get? b=some u):HOk P w H h':=λa o e=>
 (x a o e).stay (λb u _ q=>k b u q) (λ_ q=>q) λ_ _ q=>q
theorem HOk.laid(x:HOk P w H h)(k:∀ b u,h.get? b=some u->h'.get? b=some u)(hp:h.objs.size<=a)(new:dB P w (upd H a o) h' a o):HOk P w (upd H a o) h':=λb u e=>by
 have hn:=x.fresh hp;by_cases hb:b=a
 ·subst hb;rw[aP] at e;cases e;exact new
 ·rw[aL hb] at e;exact(x b u e).stay (λc v _ q=>k c v q) (λc q=>by rw[aL (cj q hn)];exact q) λc xs q=>by rw[aL (cj q hn)];exact q
end
def Rd(H:Hp)(a:Addr)(u:HO):Prop:=H a=some u\/∃ o,H a=some (.frz o u)
theorem Rd.ok{P:Program}{w:World}{H:Hp}{h:Heap}{a:Addr}{u:HO}(r:Rd H a u)(x:HOk P w H h):dB P w H h a u:=by
 rcases r with r|⟨o,r⟩
 ·exact x a u r
 ·obtain⟨_,q⟩:=x a _ r;exact q
def Mut:Option HO->Prop
 |some (.lst _)=>True
 |some (.dK _)=>True
 |some (.dT _)=>True
 |some (.set _ _)=>True
 |some (.ins _ _ _)=>True
 |some (.ext _)=>True
 |_=>False
section
variable{P:Program}{w:World}{H:Hp}{h h':Heap}{x e:Addr}{o':HO}
theorem HOk.write(ok:HOk P w H h)(mu:Mut (H x))(he:e=x\/H e=some (.own x))(k:∀ b u,b≠e->h.get? b=some u->h'.get? b=some u)(heo:∃ u,h'.get? e=some u)
  (new:dB P w (upd H x o') h' x o'):HOk P w (upd H x o') h':=λb u q=>by
 have nown:∀ c y,H c=some (.own y)->c≠x:=λc y r z=>by subst z;rw[r] at mu;exact mu
 have ntup:∀ c xs,H c=some (.tup xs)->c≠x:=λc xs r z=>by subst z;rw[r] at mu;exact mu
 by_cases hb:b=x
 ·subst hb;rw[aP] at q;cases q;exact new
 ·rw[aL hb] at q;by_cases hbe:b=e
  ·have q':H b=some (.own x):=by
    rcases he with z|z
    ·exact absurd (hbe.trans z) hb
    ·rw[hbe];exact z
   rw[q] at q';cases q';obtain⟨v,hv⟩:=heo;exact⟨v,by rw[hbe];exact hv⟩
  ·refine(ok b u q).stay (λc v hc r=>k c v ?_ r) (λc r=>by rw[aL (nown c b r)];exact r) λc xs r=>by rw[aL (ntup c xs r)];exact r
   rcases hc with rfl|hc
   ·exact hbe
   ·rintro rfl;rcases he with z|z
    ·exact nown c b hc z
    ·rw[hc] at z;cases z;exact hb rfl
end
structure Un(fs ex:List Addr)(H H':Hp)(h h':Heap):Prop where
 keep:∀ b o,h.get? b=some o->H b=none->b ∉ fs->b ∉ ex->h'.get? b=some o
 slot:∀ b o,h.get? b=some o->H b=none->b∈fs->b ∉ ex->∃ sl,h'.get? b=some { o with slots:=sl }
 free:∀ b o,h.get? b=some o->H b=none->b ∉ ex->H' b=none
 there:∀ b o,h.get? b=some o->b ∉ ex->∃ o',h'.get? b=some o'
 tups:∀ b xs,H b=some (.tup xs)->H' b=some (.tup xs)
 frzs:∀ b o u,H b=some (.frz o u)->H' b=some (.frz o u)
 tbls:∀ b ps,H b=some (.tbl ps)->∃ more,H' b=some (.tbl (ps++more))
section
variable{fs ex:List Addr}{H H1:Hp}{h h1 h':Heap}{a x e:Addr}{o:HO}
theorem Un.any(u:Un fs ex H H1 h h1){b:Addr}{ob:Obj}(q:h.get? b=some ob)(n:H b=none)(hx:b ∉ ex):∃ sl,h1.get? b=some { ob with slots:=sl }:=by
 by_cases hb:b∈fs
 ·exact u.slot b ob q n hb hx
 ·exact⟨ob.slots,u.keep b ob q n hb hx⟩
theorem Un.kept(k:∀ b u,h.get? b=some u->h'.get? b=some u):Un fs ex H H h h':=
 ⟨λb ob q _ _ _=>k b ob q,λb ob q _ _ _=>⟨ob.slots,k b ob q⟩,λ_ _ _ n _=>n,λb ob q _=>⟨ob,k b ob q⟩,λ_ _ q=>q,λ_ _ _ q=>q,λ_ ps q=>⟨#[],by rw[q];simp⟩⟩
theorem Un.refl:Un fs ex H H h h:=Un.kept λ_ _ q=>q
theorem Un.laid(k:∀ b u,h.get? b=some u->h'.get? b=some u)(hp:h.objs.size<=a)(hn:H a=none):Un fs ex H (upd H a o) h h' where
 keep:=λb u q _ _ _=>k b u q
 slot:=λb u q _ _ _=>⟨u.slots,k b u q⟩
 free:=λb u q n _=>by rw[aL (ZaE (ZaH (Zat q) hp))];exact n
 there:=λb u q _=>⟨u,k b u q⟩
 tups:=λb xs q=>by rw[aL (cj q hn)];exact q
 frzs:=λb u xs q=>by rw[aL (cj q hn)];exact q
 tbls:=λb ps q=>⟨#[],by rw[aL (cj q hn),q];simp⟩
theorem Un.write(mu:Mut (H x))(he:e=x\/H e=some (.own x))(k:∀ b u,b≠e->h.get? b=some u->h'.get? b=some u)(heo:∃ u,h'.get? e=some u):Un fs ex H (upd H x o) h h':=by
 have hx:∀ b,H b=none->b≠x:=λb n z=>by subst z;rw[n] at mu;exact mu
 have hb:∀ b,H b=none->b≠e:=λb n z=>by
  subst z;rcases he with r|r
  ·exact hx b n r
  ·rw[n] at r;cases r
 have hm:∀ b u,H b=some u->¬Mut (some u)->b≠x:=λb u q nm z=>by subst z;rw[q] at mu;exact nm mu
 refine⟨λb u q n _ _=>k b u (hb b n) q,λb u q n _ _=>⟨u.slots,k b u (hb b n) q⟩,λb u q n _=>by rw[aL (hx b n)];exact n,λb u q _=>?_,
  λb xs q=>by rw[aL (hm b _ q λz=>z)];exact q,λb u xs q=>by rw[aL (hm b _ q λz=>z)];exact q,λb ps q=>⟨#[],by rw[aL (hm b _ q λz=>z),q];simp⟩⟩
 by_cases hbe:b=e
 ·subst hbe;exact heo
 ·exact⟨u,k b u hbe q⟩
end
def trk(h:Heap)(H:Hp):List Addr:=(List.range h.objs.size).filter λa=>(H a).isSome
def GF(h:Heap)(H:Hp):Heap:=PySem.W.hideAll h (trk h H)
theorem QF(h:Heap)(H:Hp):(GF h H).objs.size=h.objs.size:=PySem.W.hideAll_size _ _
theorem R0{h:Heap}{H:Hp}{b:Addr}{o:Obj}(e:h.get? b=some o)(n:H b=none):(GF h H).get? b=some o:=
 PySem.W.hideAll_get _ e λhm=>by
  have q:(H b).isSome=true:=(Zau.mp hm).2;rw[n] at q;simp at q
theorem VP{h:Heap}{H:Hp}{b:Addr}{o:Obj}(e:(GF h H).get? b=some o):h.get? b=some o/\H b=none:=by
 have e':h.get? b=some o:=PySem.W.of_hideAll (trk h H) e;refine⟨e',?_⟩;cases q:H b with
 |none=>rfl
 |some x=>
  have hm:b∈trk h H:=Zau.mpr ⟨Zav.mpr (Zat e'),by simp[q]⟩
  have z:(GF h H).get? b=none:=PySem.W.hideAll_none (trk h H) hm;rw[z] at e;cases e
def VR(g h:Heap)(L:Addr):List (Addr×Obj):=(List.range h.objs.size).filterMap λa=>if a=L\/(g.get? a).isSome=true then none else(h.get? a).map λo=>(a,o)
def rest(g h:Heap)(L d:Addr):List (Addr×Obj):=(VR g h L).filter λp=>decide (p.1≠d)
structure Mod(K:Frag)(mg:Str->Option Value)(base:Heap):Prop where
 kin:K.In base
 glob:base.Ns mainGlobals mg
 blt:∃ mb,base.Ns builtinsNs mb/\∀ x:Str,x≠"__name__"->mb x=bootBuiltins x
 nolimit:base.NoLimit
structure Cx where
 prog:Program
 w:World
 K:Frag
 mg:Str->Option Value
 base:Heap
 A:Around
 N:List Str
 s₀:Shared
 H₀:Hp
 env:Env
 outer:List Env
 stack:List Env
 ex:List Addr
 fn:Str->Bool
 calm:Bool
 pn:List (Addr×Obj)
 xe:Value->Shared->Prop
def frs(l:List Env):List Addr:=l.filterMap (·.frame)
noncomputable abbrev Cx.fs(X:Cx):List Addr:=frs X.outer
def Vis(sc:Scope)(x:Str):Prop:=sc.names.lookup x=some .local\/sc.names.lookup x=some .cell\/sc.names.lookup x=some .free
def Loc(sc:Scope)(x:Str):Prop:=sc.names.lookup x=some .local\/sc.names.lookup x=some .cell
def Look(env:Env)(h:Heap)(m:Str->Option Value)(x:Str)(u:Value):Prop:=
 (env.kindOf x=some .local/\m x=some u)\/((env.kindOf x=some .cell\/env.kindOf x=some .free)/\∃ c,env.cells.lookup x=some c/\h.IsCell c (some u))
structure Cx.Ok(X:Cx):Prop where
 mod:Mod X.K X.mg X.base
 kind:X.env.scope.kind=.function
 glob:X.env.globals=mainGlobals
 blt:X.env.builtins=builtinsNs
 above:X.s₀.heap.objs.size<=X.env.locals
 inj:∀ x y c,X.env.cells.lookup x=some c->X.env.cells.lookup y=some c->x=y
 has:∀ x,(X.env.kindOf x=some .cell\/X.env.kindOf x=some .free)->∃ c,X.env.cells.lookup x=some c
 cab:∀ x c,X.fn x=true->X.env.cells.lookup x=some c->X.s₀.heap.objs.size<=c
 hd:X.calm=true->X.A.handled=none
 frames:X.A.frames=some X.stack
 stk:X.stack=X.outer\/(X.stack=X.env::X.outer/\X.env.frame=some X.env.locals)
 exf:∀ b∈X.ex,b≠X.env.locals/\∀ x c,X.env.cells.lookup x=some c->c≠b
 bs:∀ b o,X.base.get? b=some o->X.s₀.heap.get? b=some o/\X.H₀ b=none
 bsz:X.base.objs.size<=X.s₀.heap.objs.size
 noex:∀ b o,X.base.get? b=some o->b ∉ X.ex
 exfs:∀ b∈X.ex,b ∉ X.fs
 zT:X.s₀.heap.FunFrames X.base X.outer
 frf:∀ b∈X.fs,X.H₀ b=none
structure Inv(X:Cx)(pins:List (Addr×Obj))(O:List (Option V))(H:Hp)(s:Shared):Prop where
 ok:X.Ok
 os:s.os=X.s₀.os
 bare:AllBare s.gens
 base:Un X.fs X.ex X.H₀ H X.s₀.heap s.heap
 loc:∃ m,s.heap.Ns X.env.locals m/\∀ (i:Nat) (x:Str) (v:V),X.N[i]?=some x->O[i]?=some (some v)->Vis X.env.scope x->∃ u,RelV v u/\Look X.env s.heap m x u
 cell:∀ x c,X.env.cells.lookup x=some c->∃ v,s.heap.IsCell c v
 free:H X.env.locals=none
 freeC:∀ x c,X.env.cells.lookup x=some c->H c=none
 pin:∀ p∈X.pn++pins,s.heap.get? p.1=some p.2/\H p.1=none/\p.1≠X.env.locals/\p.1 ∉ X.fs/\∀ v,p.2.data≠.cell v
 hok:HOk X.prog X.w H s.heap
 len:O.length=X.N.length
section
variable{X:Cx}{pins:List (Addr×Obj)}{O:List (Option V)}{H H':Hp}{s:Shared}{h':Heap}
theorem Cx.Ok.aaH(ok:X.Ok){b:Addr}{o:Obj}(e:X.base.get? b=some o):b ∉ X.fs:=λhb=>by
 have:=(ok.zT.mem hb).1;rw[e] at this;cases this
theorem Inv.bs(I:Inv X pins O H s):∀ b o,X.base.get? b=some o->s.heap.get? b=some o/\H b=none:=λb o e=>
 ⟨I.base.keep b o (I.ok.bs b o e).1 (I.ok.bs b o e).2 (I.ok.aaH e) (I.ok.noex b o e),I.base.free b o (I.ok.bs b o e).1 (I.ok.bs b o e).2 (I.ok.noex b o e)⟩
theorem Inv.bk(I:Inv X pins O H s):∀ b o,X.base.get? b=some o->s.heap.get? b=some o:=λb o e=>(I.bs b o e).1
theorem Inv.mod(I:Inv X pins O H s):Mod X.K X.mg X.base:=I.ok.mod
theorem Inv.kIn(I:Inv X pins O H s):X.K.In s.heap:=I.ok.mod.kin.keeps I.bk
theorem Inv.lt(I:Inv X pins O H s):X.env.locals<s.heap.objs.size:=let⟨_,hn,_⟩:=I.loc;hn.lt
theorem Inv.sz(I:Inv X pins O H s):X.s₀.heap.objs.size<=s.heap.objs.size:=ZaI I.ok.above (ZaB I.lt)
theorem Inv.aaI(I:Inv X pins O H s){a:Addr}(h:s.heap.objs.size<=a):a ∉ X.fs:=λhb=>by
 obtain⟨_,o,ho,_⟩:=I.ok.zT.mem hb;exact absurd (ZaH (Zat ho) (ZaI I.sz h)) (ZbU _)
theorem Inv.cne(I:Inv X pins O H s):∀ x c,X.env.cells.lookup x=some c->c≠X.env.locals:=λx c e z=>by
 obtain⟨v,o,ho,hd⟩:=I.cell x c e;obtain⟨m,⟨o',es,ep,ho',hd',_⟩,_⟩:=I.loc;rw[z,ho'] at ho;cases ho;rw[hd'] at hd;cases hd
theorem Inv.zT(I:Inv X pins O H s):s.heap.FunFrames X.base X.outer:=by
 have all:∀ (l:List Env),(∀ b∈frs l,b∈X.fs)->X.s₀.heap.FunFrames X.base l->s.heap.FunFrames X.base l:=by
  intro l;induction l with
  |nil=>intro _ _;trivial
  |cons env r ih=>
   intro hs hl;obtain⟨hk,⟨L,o,hf,hn,ho,hd⟩,hr⟩:=hl;have hL:L∈X.fs:=hs L (by unfold frs;rw[ZcG,hf];exact Zaw)
   obtain⟨sl,e⟩:=I.base.slot L o ho (I.ok.frf L hL) hL λz=>I.ok.exfs L z hL;exact⟨hk,⟨L,_,hf,hn,e,hd⟩,ih (λb hb=>hs b (by unfold frs;rw[ZcG,hf];exact Zaq _ hb)) hr⟩
 exact all X.outer (λ_ hb=>hb) I.ok.zT
theorem Inv.stack(I:Inv X pins O H s):s.heap.FunFrames X.base X.stack:=by
 rcases I.ok.stk with e|⟨e,hf⟩
 ·rw[e];exact I.zT
 ·rw[e];obtain⟨m,hn,_⟩:=I.loc;refine .cons (by rw[I.ok.kind];decide) hf hn ?_ I.zT
  exact Heap.get?_none_of_le (ZaI I.ok.bsz I.ok.above)
theorem Inv.LR(I:Inv X pins O H s):∀ b∈frs X.stack,b∈X.env.locals::X.fs:=λb hb=>by
 rcases I.ok.stk with e|⟨e,hf⟩
 ·rw[e] at hb;exact Zaq _ hb
 ·rw[e] at hb;unfold frs at hb;rw[ZcG,hf] at hb;exact hb
theorem Inv.Oc(I:Inv X pins O H s):∀ b∈frs X.stack,H b=none:=λb hb=>by
 rcases ZaA.mp (I.LR b hb) with e|hb
 ·rw[e];exact I.free
 ·obtain⟨_,o,ho,_⟩:=I.ok.zT.mem hb;exact I.base.free b o ho (I.ok.frf b hb) λz=>I.ok.exfs b z hb
theorem Inv.step{g':Array GenState}{t':Nat}{d':Drawn}{ch:List Addr}(I:Inv X pins O H s)
  (hch:∀ b∈ch,(b∈X.ex\/X.s₀.heap.objs.size<=b)/\b≠X.env.locals/\(∀ x c,X.env.cells.lookup x=some c->c≠b)/\∀ p∈X.pn++pins,p.1≠b)
  (keep:∀ b o,b≠X.env.locals->b ∉ X.fs->b ∉ ch->s.heap.get? b=some o->H b=none->h'.get? b=some o)
  (slot:∀ b o,b≠X.env.locals->b∈X.fs->b ∉ ch->s.heap.get? b=some o->H b=none->∃ sl,h'.get? b=some { o with slots:=sl })(free:∀ b o,b ∉ ch->s.heap.get? b=some o->H b=none->H' b=none)
  (there:∀ b o,b ∉ ch->s.heap.get? b=some o->∃ o',h'.get? b=some o')
  (tups:∀ b xs,H b=some (.tup xs)->H' b=some (.tup xs))(frzs:∀ b o u,H b=some (.frz o u)->H' b=some (.frz o u))(tbls:∀ b ps,H b=some (.tbl ps)->∃ more,H' b=some (.tbl (ps++more)))
  (ns:∀ m,s.heap.Ns X.env.locals m->h'.Ns X.env.locals m)(hok:HOk X.prog X.w H' h')(hg:AllBare g') :
  Inv X pins O H' { s with heap:=h',gens:=g',drawn:=d',toks:=t' }:=by
 have neL:∀ b o,X.s₀.heap.get? b=some o->b≠X.env.locals:=λb o e=>ZaE (ZaH (Zat e) I.ok.above);have neC:∀ b o,X.s₀.heap.get? b=some o->b ∉ X.ex->b ∉ ch:=λb o e hx hb=>by
  rcases(hch b hb).1 with z|z
  ·exact hx z
  ·exact absurd (ZaH (Zat e) z) (ZbU _)
 have cellK:∀ x c,X.env.cells.lookup x=some c->∀ v,s.heap.IsCell c v->h'.IsCell c v:=λx c e v ⟨o,ho,hd⟩=>by
  have nch:c ∉ ch:=λz=>(hch c z).2.2.1 x c e rfl;by_cases hc:c∈X.fs
  ·obtain⟨sl,q⟩:=slot c o (I.cne x c e) hc nch ho (I.freeC x c e);exact⟨_,q,hd⟩
  ·exact⟨o,keep c o (I.cne x c e) hc nch ho (I.freeC x c e),hd⟩
 refine⟨I.ok,I.os,hg,⟨λb o e n hb hx=>?_,λb o e n hb hx=>?_,λb o e n hx=>?_,λb o e hx=>?_,λb xs e=>tups b xs (I.base.tups b xs e),λb o xs e=>frzs b o xs (I.base.frzs b o xs e),λb ps e=>?_⟩,?_,λx c e=>?_,?_,λx c e=>?_,λp hp=>?_,hok,I.len⟩
 ·exact keep b o (neL b o e) hb (neC b o e hx) (I.base.keep b o e n hb hx) (I.base.free b o e n hx)
 ·obtain⟨sl,e1⟩:=I.base.slot b o e n hb hx;obtain⟨sl',e2⟩:=slot b _ (neL b o e) hb (neC b o e hx) e1 (I.base.free b o e n hx);exact⟨sl',e2⟩
 ·obtain⟨o',e1⟩:=I.base.there b o e hx;exact free b o' (neC b o e hx) e1 (I.base.free b o e n hx)
 ·obtain⟨o',e1⟩:=I.base.there b o e hx;exact there b o' (neC b o e hx) e1
 ·obtain⟨m1,e1⟩:=I.base.tbls b ps e;obtain⟨m2,e2⟩:=tbls b _ e1;exact⟨m1++m2,by rw[e2,Array.append_assoc]⟩
 ·obtain⟨m,hn,hl⟩:=I.loc;refine⟨m,ns m hn,λi x v e1 e2 e3=>?_⟩;obtain⟨u,r,l⟩:=hl i x v e1 e2 e3;refine⟨u,r,?_⟩;rcases l with l|⟨k,c,e,z⟩
  ·exact .inl l
  ·exact .inr ⟨k,c,e,cellK x c e _ z⟩
 ·obtain⟨v,z⟩:=I.cell x c e;exact⟨v,cellK x c e v z⟩
 ·obtain⟨m,⟨o,_,_,ho,_⟩,_⟩:=I.loc;exact free _ o (λz=>(hch _ z).2.1 rfl) ho I.free
 ·obtain⟨v,o,ho,hd⟩:=I.cell x c e;exact free c o (λz=>(hch c z).2.2.1 x c e rfl) ho (I.freeC x c e)
 ·obtain⟨e,n,ne,nf,d⟩:=I.pin p hp;have nch:p.1 ∉ ch:=λz=>(hch p.1 z).2.2.2 p hp rfl;exact⟨keep p.1 p.2 ne nf nch e n,free p.1 p.2 nch e n,ne,nf,d⟩
theorem Inv.un{t':Nat}(I:Inv X pins O H s)(u:Un X.fs [] H H' s.heap h')(hok:HOk X.prog X.w H' h'):Inv X pins O H' { s with heap:=h',toks:=t' }:=by
 obtain⟨m,⟨o,es,ep,ho,r⟩,_⟩:=id I.loc;obtain⟨sl,hL⟩:=u.any ho I.free (by simp)
 exact I.step (g':=s.gens) (d':=s.drawn) (ch:=[]) (λ_ z=>nomatch z) (λb o _ hb _ e n=>u.keep b o e n hb (by simp)) (λb o _ hb _ e n=>u.slot b o e n hb (by simp)) (λb o _ e n=>u.free b o e n (by simp)) (λb o _ e=>u.there b o e (by simp)) u.tups u.frzs u.tbls (λm' hm=>by
  obtain⟨o',es',ep',ho',r'⟩:=hm;rw[ho] at ho';cases ho';exact⟨_,es',ep',hL,r'⟩) hok I.bare
theorem Inv.call{g':Array GenState}{t':Nat}{d':Drawn}{ch:List Addr}(I:Inv X pins O H s)(u:Un (frs X.stack) ch H H' s.heap h')(hok:HOk X.prog X.w H' h')(hg:AllBare g')
  (hch:∀ b∈ch,(b∈X.ex\/X.s₀.heap.objs.size<=b)/\b≠X.env.locals/\(∀ x c,X.env.cells.lookup x=some c->c≠b)/\∀ p∈X.pn++pins,p.1≠b) :
  Inv X pins O H' { s with heap:=h',gens:=g',drawn:=d',toks:=t' }:=by
 obtain⟨m,⟨o,es,ep,ho,r⟩,_⟩:=id I.loc;obtain⟨sl,hL⟩:=u.any ho I.free λz=>(hch _ z).2.1 rfl;exact I.step (ch:=ch) hch (λb o hL hb hc e n=>u.keep b o e n (λz=>(ZaA.mp (I.LR b z)).elim hL hb) hc) (λb o _ _ hc e n=>u.any e n hc) (λb o hc e n=>u.free b o e n hc) (λb o hc e=>u.there b o e hc) u.tups u.frzs u.tbls (λm' hm=>by
  obtain⟨o',es',ep',ho',r'⟩:=hm;rw[ho] at ho';cases ho';exact⟨_,es',ep',hL,r'⟩) hok hg
theorem Inv.turned{t':Nat}{it:Addr}(I:Inv X pins O H s)(k:∀ b o,b≠it->s.heap.get? b=some o->h'.get? b=some o)(hn:H it=none)(hL:it≠X.env.locals)
  (h1:it∈X.ex\/X.s₀.heap.objs.size<=it)(h2:∀ x c,X.env.cells.lookup x=some c->c≠it)(h3:∀ p∈X.pn++pins,p.1≠it):Inv X pins O H { s with heap:=h',toks:=t' }:=by
 have nit:∀ b u,H b=some u->b≠it:=λb u e z=>by rw[z,hn] at e;cases e
 refine I.step (g':=s.gens) (d':=s.drawn) (ch:=[it]) (λb hb=>?_) (λb o _ _ hc e _=>k b o (λz=>hc (by simp[z])) e) (λb o _ _ hc e _=>⟨o.slots,k b o (λz=>hc (by simp[z])) e⟩) (λ_ _ _ _ n=>n)
  (λb o hc e=>⟨o,k b o (λz=>hc (by simp[z])) e⟩) (λ_ _ e=>e) (λ_ _ _ e=>e) (λb ps e=>⟨#[],by rw[e];simp⟩) (λm hm=>?_) (λb u e=>?_) I.bare
 ·have e:b=it:=by simpa using hb
  subst e;exact⟨h1,hL,h2,h3⟩
 ·obtain⟨o,es,ep,ho,r⟩:=hm;exact⟨o,es,ep,k _ o (Zbj hL) ho,r⟩
 ·refine(I.hok b u e).stay (λc v hc q=>k c v ?_ q) (λ_ q=>q) λ_ _ q=>q;rcases hc with z|z
  ·rw[z];exact nit b u e
  ·exact nit c _ z
theorem Inv.tok(I:Inv X pins O H s)(t:Nat):Inv X pins O H { s with toks:=t }:=I.un (h':=s.heap) (t':=t) Un.refl I.hok
theorem Inv.kept{t':Nat}(I:Inv X pins O H s)(k:∀ b u,s.heap.get? b=some u->h'.get? b=some u):Inv X pins O H { s with heap:=h',toks:=t' }:=I.un (Un.kept k) (I.hok.kept k)
theorem Inv.laid{a:Addr}{o:HO}{t':Nat}(I:Inv X pins O H s)(k:∀ b u,s.heap.get? b=some u->h'.get? b=some u)(hp:s.heap.objs.size<=a)(new:dB X.prog X.w (upd H a o) h' a o) :
  Inv X pins O (upd H a o) { s with heap:=h',toks:=t' }:=I.un (Un.laid k hp (I.hok.fresh hp)) (I.hok.laid k hp new)
theorem Inv.write{x e:Addr}{o:HO}{t':Nat}(I:Inv X pins O H s)(mu:Mut (H x))(he:e=x\/H e=some (.own x))(k:∀ b u,b≠e->s.heap.get? b=some u->h'.get? b=some u)(heo:∃ u,h'.get? e=some u)
  (new:dB X.prog X.w (upd H x o) h' x o):Inv X pins O (upd H x o) { s with heap:=h',toks:=t' }:=I.un (Un.write mu he k heo) (I.hok.write mu he k heo new)
theorem Inv.Od{pins':List (Addr×Obj)}(I:Inv X pins O H s)(h:∀ p∈pins',s.heap.get? p.1=some p.2/\H p.1=none/\p.1≠X.env.locals/\p.1 ∉ X.fs/\∀ v,p.2.data≠.cell v):Inv X pins' O H s:=
 ⟨I.ok,I.os,I.bare,I.base,I.loc,I.cell,I.free,I.freeC,λp hp=>(ZaK.mp hp).elim (λz=>I.pin p (Zbv _ z)) (h p),I.hok,I.len⟩
theorem Jh{N:List Str}(hN:N.Nodup){i j:Nat}{x:Str}(a:N[i]?=some x)(b:N[j]?=some x):i=j:=by
 obtain⟨h1,e1⟩:=Zac.mp a;obtain⟨h2,e2⟩:=Zac.mp b;exact(List.getElem_inj hN).mp (e1.trans e2.symm)
theorem Fe{M:Model}{A:Around}{E:Value->Shared->Prop}{i:Nat}{x:Str}{v:V}{u:Value}{Q:Unit->Shared->Prop}(I:Inv X pins O H s)(hN:X.N.Nodup)(hi:X.N[i]?=some x)(hx:Loc X.env.scope x)(r:RelV v u)
  (h:∀ s',Inv X pins (O.set i (some v)) H s'->(∃ a,Heap.SameBut a s.heap s'.heap/\(a=X.env.locals\/X.env.cells.lookup x=some a))->Q () s')(hf:X.fn x=true\/X.env.scope.names.lookup x=some .local:=by first|exact .inl rfl|exact .inr rfl|assumption):wpAny M A (storeName X.env x u) Q E s:=by
 obtain⟨m,hn,hl⟩:=id I.loc;have hcls:(X.env.scope.kind==.class||(X.env.scope.kind==.module&&X.env.locals != X.env.globals))=false:=by rw[I.ok.kind];rfl
 have hiσ:i<O.length:=by rw[I.len];exact(Zac.mp hi).1
 have cne:=I.cne;have tracked:∀ {a:Addr}{h':Heap},(∃ o,s.heap.get? a=some o/\H a=none)->Heap.SameBut a s.heap h'->HOk X.prog X.w H h':=λ{a h'} ha hs b ob e=>by
  obtain⟨_,_,hfree⟩:=ha;refine(I.hok b ob e).stay (λc w' hc q=>(hs.2 c ?_).trans q) (λ_ q=>q) λ_ _ q=>q;rintro rfl;rcases hc with rfl|hc
  ·rw[hfree] at e;cases e
  ·rw[hfree] at hc;cases hc
 rcases hx with hk|hk
 ·refine wpAny_storeName_local hk hn (λh' hn' hs=>?_) hcls;obtain⟨oL,_,_,hoL,_⟩:=id hn;refine h _ ⟨I.ok,I.os,I.bare,⟨λb o e n hb hx=>?_,λb o e n hb hx=>?_,I.base.free,λb o e hx=>?_,I.base.tups,I.base.frzs,I.base.tbls⟩,⟨_,hn',λj y v' e1 e2 e3=>?_⟩,λy c e=>?_,I.free,I.freeC,λp hp=>?_,tracked ⟨oL,hoL,I.free⟩ hs,by simpa using I.len⟩ ⟨_,hs,.inl rfl⟩
  ·exact(hs.2 b (ZaE (ZaH (Zat e) I.ok.above))).trans (I.base.keep b o e n hb hx)
  ·obtain⟨sl,e1⟩:=I.base.slot b o e n hb hx;exact⟨sl,(hs.2 b (ZaE (ZaH (Zat e) I.ok.above))).trans e1⟩
  ·obtain⟨o',e1⟩:=I.base.there b o e hx;exact⟨o',(hs.2 b (ZaE (ZaH (Zat e) I.ok.above))).trans e1⟩
  ·by_cases hj:j=i
   ·subst hj;rw[hi] at e1;cases e1;rw[Zbe hiσ] at e2;cases e2;exact⟨u,r,.inl ⟨hk,by simp⟩⟩
   ·rw[Zax (Zbj hj)] at e2;obtain⟨u',r',q⟩:=hl j y v' e1 e2 e3;refine⟨u',r',?_⟩;rcases q with⟨k,e⟩|⟨k,c,e,z⟩
    ·refine .inl ⟨k,?_⟩;have:y≠x:=λe=>hj (Jh hN e1 (e▸hi));simp[this,e]
    ·exact .inr ⟨k,c,e,z.sameBut hs (cne y c e)⟩
  ·obtain⟨w',z⟩:=I.cell y c e;exact⟨w',z.sameBut hs (cne y c e)⟩
  ·obtain⟨e,n,ne,nf,d⟩:=I.pin p hp;exact⟨(hs.2 p.1 ne).trans e,n,ne,nf,d⟩
 ·have hfn:X.fn x=true:=by
   rcases hf with z|z
   ·exact z
   ·rw[z] at hk;cases hk
  obtain⟨c,hc⟩:=I.ok.has x (.inl hk);obtain⟨w',z⟩:=I.cell x c hc;refine wpAny_storeName_cell I.ok.kind hk hc z (λh' hc' hs=>?_);obtain⟨oc,hoc,hocd⟩:=id z;refine h { s with heap:=h' } ⟨I.ok,I.os,I.bare,⟨λb o e n hb hx=>?_,λb o e n hb hx=>?_,I.base.free,λb o e hx=>?_,I.base.tups,I.base.frzs,I.base.tbls⟩,⟨m,hn.sameBut hs (Zbj (cne x c hc)),λj y v' e1 e2 e3=>?_⟩,λy c' e=>?_,I.free,I.freeC,λp hp=>?_,tracked ⟨oc,hoc,I.freeC x c hc⟩ hs,by simpa using I.len⟩ ⟨c,hs,.inr hc⟩
  ·exact(hs.2 b (ZaE (ZaH (Zat e) (I.ok.cab x c hfn hc)))).trans (I.base.keep b o e n hb hx)
  ·obtain⟨sl,e1⟩:=I.base.slot b o e n hb hx;exact⟨sl,(hs.2 b (ZaE (ZaH (Zat e) (I.ok.cab x c hfn hc)))).trans e1⟩
  ·obtain⟨o',e1⟩:=I.base.there b o e hx;exact⟨o',(hs.2 b (ZaE (ZaH (Zat e) (I.ok.cab x c hfn hc)))).trans e1⟩
  ·by_cases hj:j=i
   ·subst hj;rw[hi] at e1;cases e1;rw[Zbe hiσ] at e2;cases e2;exact⟨u,r,.inr ⟨.inl hk,c,hc,hc'⟩⟩
   ·rw[Zax (Zbj hj)] at e2;obtain⟨u',r',q⟩:=hl j y v' e1 e2 e3;refine⟨u',r',?_⟩;rcases q with q|⟨k,c',e,z'⟩
    ·exact .inl q
    ·refine .inr ⟨k,c',e,z'.sameBut hs ?_⟩;rintro rfl;exact hj (Jh hN e1 (I.ok.inj _ _ _ e hc▸hi))
  ·by_cases hcc:c'=c
   ·subst hcc;exact⟨_,hc'⟩
   ·obtain⟨w2,z2⟩:=I.cell y c' e;exact⟨w2,z2.sameBut hs hcc⟩
  ·obtain⟨e,n,ne,nf,d⟩:=I.pin p hp;refine⟨(hs.2 p.1 ?_).trans e,n,ne,nf,d⟩;intro q;rw[q,hoc] at e;have q':oc=p.2:=Zaf e;exact d w' (by rw[<-q'];exact hocd)
theorem Ji{M:Model}{A:Around}{E:Value->Shared->Prop}{i:Nat}{x:Str}{v:V}{u:Value}{Q:Unit->Shared->Prop}(I:Inv X pins O H s)(hN:X.N.Nodup)(hi:X.N[i]?=some x)(hx:Loc X.env.scope x)(r:RelV v u)
  (h:∀ s',Inv X pins (O.set i (some v)) H s'->Q () s')(hf:X.fn x=true\/X.env.scope.names.lookup x=some .local:=by first|exact .inl rfl|exact .inr rfl|assumption):wpAny M A (storeName X.env x u) Q E s:=
 Fe I hN hi hx r (λs' I' _=>h s' I') hf
theorem Inv.call'{s':Shared}{ch:List Addr}(I:Inv X pins O H s)(ho:s'.os=s.os)(u:Un (frs X.stack) ch H H' s.heap s'.heap)(hok:HOk X.prog X.w H' s'.heap)(hg:AllBare s'.gens)
  (hch:∀ b∈ch,(b∈X.ex\/X.s₀.heap.objs.size<=b)/\b≠X.env.locals/\(∀ x c,X.env.cells.lookup x=some c->c≠b)/\∀ p∈X.pn++pins,p.1≠b):Inv X pins O H' s':=by
 obtain⟨h',g',d',t',o'⟩:=s';have e:o'=s.os:=ho;subst e;exact I.call (g':=g') (t':=t') (d':=d') u hok hg hch
end
noncomputable abbrev XK:=Value->Option Addr->Hp->Prop
noncomputable abbrev St:=List (Option V)
noncomputable abbrev VK:=V->Hp->Prop
noncomputable abbrev TE:=St->Hp->VK->Prop
noncomputable abbrev TT:=St->Hp->(Bool->Hp->Prop)->Prop
noncomputable abbrev TA:=St->Hp->(List V->Hp->Prop)->Prop
structure Ends where
 nx:St->Hp->Prop
 rt:VK
 bk:St->Hp->Prop:=λ_ _=>False
 ct:St->Hp->Prop:=λ_ _=>False
noncomputable abbrev TS:=Ends->St->Hp->Prop
def EP(X:Cx)(pins:List (Addr×Obj))(O:St)(Q:VK)(u:Value)(s':Shared):Prop:=∃ v H',Inv X pins O H' s'/\RelV v u/\Q v H'
def TP(X:Cx)(pins:List (Addr×Obj))(O:St)(Q:Bool->Hp->Prop)(b:Bool)(s':Shared):Prop:=∃ H',Inv X pins O H' s'/\Q b H'
def AP(X:Cx)(pins:List (Addr×Obj))(O:St)(Q:List V->Hp->Prop)(us:List Value)(s':Shared):Prop:=∃ vs H',Inv X pins O H' s'/\Vals vs us/\Q vs H'
def SP(X:Cx)(pins:List (Addr×Obj))(D:Ends)(f:Flow)(s':Shared):Prop:=
 match f with
 |.next=>∃ O' H',Inv X pins O' H' s'/\D.nx O' H'
 |.brk=>∃ O' H',Inv X pins O' H' s'/\D.bk O' H'
 |.cont=>∃ O' H',Inv X pins O' H' s'/\D.ct O' H'
 |.ret u=>∃ v O' H',Inv X pins O' H' s'/\RelV v u/\D.rt v H'
def PE(X:Cx)(e:Expr)(t:TE):Prop:=
 ∀ (pins:List (Addr×Obj)) (s:Shared) (O:St) (H:Hp) (Q:VK),Inv X pins O H s->t O H Q->wpAny (model X.prog X.w) X.A (eval e X.env) (EP X pins O Q) X.xe s
def PT(X:Cx)(e:Expr)(t:TT):Prop:=
 ∀ (pins:List (Addr×Obj)) (s:Shared) (O:St) (H:Hp) (Q:Bool->Hp->Prop),Inv X pins O H s->t O H Q->wpAny (model X.prog X.w) X.A (isTrue e X.env (eval e X.env)) (TP X pins O Q) X.xe s
def PW(X:Cx)(e:Expr)(t:TT):Prop:=
 ∀ (whole:Sem Value) (pins:List (Addr×Obj)) (s:Shared) (O:St) (H:Hp) (Q:Bool->Hp->Prop),Inv X pins O H s->t O H Q->wpAny (model X.prog X.w) X.A (isTrue e X.env whole) (TP X pins O Q) X.xe s
theorem PW.pt{X:Cx}{e:Expr}{t:TT}(h:PW X e t):PT X e t:=h _
def PA(X:Cx)(es:List Expr)(t:TA):Prop:=
 ∀ (pos:Pos) (pins:List (Addr×Obj)) (s:Shared) (O:St) (H:Hp) (Q:List V->Hp->Prop),Inv X pins O H s->t O H Q->wpAny (model X.prog X.w) X.A (spliced (backTo pos (starEach es X.env))) (AP X pins O Q) X.xe s
def PS(X:Cx)(st:Stmt)(t:TS):Prop:=
 ∀ (pins:List (Addr×Obj)) (s:Shared) (O:St) (H:Hp) (D:Ends),Inv X pins O H s->t D O H->wpAny (model X.prog X.w) X.A (exec st X.env) (SP X pins D) X.xe s
def PSs(X:Cx)(st:List Stmt)(t:TS):Prop:=
 ∀ (pins:List (Addr×Obj)) (s:Shared) (O:St) (H:Hp) (D:Ends),Inv X pins O H s->t D O H->wpAny (model X.prog X.w) X.A (execs st X.env) (SP X pins D) X.xe s
theorem thn{α:Type}{t:Sem α}{Q Q':α->Shared->Prop}{M:Model}{A:Around}{E:Value->Shared->Prop}{s:Shared}(h:wpAny M A t Q E s)(hQ:∀ a s,Q a s->Q' a s):wpAny M A t Q' E s:=Zbn h hQ λ_ _ x=>x
section
variable{X:Cx}
def mj(i:Nat):TE:=λO H Q=>∃ v,O[i]?=some (some v)/\Q v H
def tC(v:V):TE:=λ_ H Q=>Q v H
theorem Ma{i:Nat}{x:Str}{pos:Pos}(hN:X.N[i]?=some x)(hv:Vis X.env.scope x)(hd:(x==("__debug__":Str))=false:=by decide)(hcd:(x==("__classdict__":Str))=false:=by decide):PE X (.Name x pos) (mj i):=by
 intro pins s O H Q I h;obtain⟨v,e,h⟩:=h;obtain⟨m,hn,hl⟩:=I.loc;obtain⟨u,r,l⟩:=hl i x v hN e hv;have fin:EP X pins O Q u s:=⟨v,H,I,r,h⟩;rcases l with⟨hk,hm⟩|⟨hk,c,hc,hcell⟩
 ·exact wpAny_Name (wpAny_loadName_local I.ok.kind hk hn hm fin) hd
 ·rcases hk with hk|hk
  ·exact wpAny_Name (wpAny_loadName_cell I.ok.kind hk hc hcell fin) hd
  ·exact wpAny_Name (wpAny_loadName_free I.ok.kind hk hc hcell fin hcd) hd
theorem aB{i j pos}:PE X (.Constant (.int i) j pos) (tC (.int i)):=λ_ _ _ H _ I h=>wpAny_Constant_int ⟨.int i,H,I.tok _,⟨_,rfl⟩,h⟩
theorem ur{b j pos}:PE X (.Constant (.bool b) j pos) (tC (.bl b)):=λ_ _ _ H _ I h=>Constant_bool ⟨.bl b,H,I,rfl,h⟩
theorem uT{j pos}:PE X (.Constant .none j pos) (tC .non):=λ_ _ _ H _ I h=>Constant_none ⟨.non,H,I,rfl,h⟩
theorem Yo{x j pos}:PE X (.Constant (.str x) j pos) (tC (.str x)):=λ_ _ _ H _ I h=>Calls.Constant_str ⟨.str x,H,I.tok _,⟨_,rfl⟩,h⟩
def Gl(X:Cx)(x:Str):Prop:=X.env.kindOf x=some .globalImplicit
theorem Oe{E:Value->Shared->Prop}{pins:List (Addr×Obj)}{s:Shared}{O:St}{H:Hp}{x:Str}{u:Value}{pos:Pos}{Q:Value->Shared->Prop}(I:Inv X pins O H s)(hg:Gl X x)(hm:X.mg x=some u)(h:Q u s)
  (hd:(x==("__debug__":Str))=false:=by decide):wpAny (model X.prog X.w) X.A (eval (.Name x pos) X.env) Q E s:=
 Calls.Name_function_global I.ok.kind hg (Calls.loadGlobal_global (by rw[I.ok.glob];exact I.mod.glob.keeps I.bk) hm h) hd
theorem uU{E:Value->Shared->Prop}{pins:List (Addr×Obj)}{s:Shared}{O:St}{H:Hp}{x:Str}{u:Value}{pos:Pos}{Q:Value->Shared->Prop}(I:Inv X pins O H s)(hg:Gl X x)(hm:X.mg x=none)(hv:bootBuiltins x=some u)(h:Q u s)
  (hn:x≠"__name__":=by decide)(hd:(x==("__debug__":Str))=false:=by decide):wpAny (model X.prog X.w) X.A (eval (.Name x pos) X.env) Q E s:=by
 obtain⟨mb,h1,h2⟩:=I.mod.blt;exact Calls.Name_function_global I.ok.kind hg (Calls.loadGlobal_builtin (by rw[I.ok.glob];exact I.mod.glob.keeps I.bk) hm (by rw[I.ok.blt];exact h1.keeps I.bk) ((h2 x hn).trans hv) h) hd
theorem V0{x:Str}{v:V}{u:Value}{pos:Pos}(hg:Gl X x)(hm:X.mg x=some u)(r:RelV v u)(hd:(x==("__debug__":Str))=false:=by decide):PE X (.Name x pos) (tC v):=
 λ_ _ _ H _ I h=>Oe I hg hm ⟨v,H,I,r,h⟩ hd
theorem V1{x:Str}{v:V}{u:Value}{pos:Pos}(hg:Gl X x)(hm:X.mg x=none)(hv:bootBuiltins x=some u)(r:RelV v u)(hn:x≠"__name__":=by decide)(hd:(x==("__debug__":Str))=false:=by decide):PE X (.Name x pos) (tC v):=
 λ_ _ _ H _ I h=>uU I hg hm hv ⟨v,H,I,r,h⟩ hn hd
variable{a b:Expr}{ta tb:TE}{pos:Pos}
def tB(t:TE):TT:=λO H Q=>t O H λx H1=>∃ c,x=.bl c/\Q c H1
theorem lw{e:Expr}{t:TE}(h:PE X e t)(he:∀ whole,isTrue e X.env whole=(do let v <-whole;standAt e.pos;holding [v] (truthy v)):=by intro _;rfl):PT X e (tB t):=by
 intro pins s O H Q I hw;refine isTrue_plain (thn (h pins s O H _ I hw) ?_) (he _);rintro v s1 ⟨x,H1,I1,r1,q1⟩;obtain⟨d,rfl,q⟩:=q1;cases r1;exact wpAny_truthy_bool ⟨H1,I1,q⟩
variable{tA tB':TT}{rest:List Expr}
def ZP(t u:TT):TT:=λO H Q=>t O H λc H1=>if c=true then u O H1 Q else Q false H1
def tOr(t u:TT):TT:=λO H Q=>t O H λc H1=>if c=true then Q true H1 else u O H1 Q
def ZQ(t:TT):TT:=λO H Q=>t O H λc H1=>Q (!c) H1
theorem GJ(ha:PT X a tA):PW X (.BoolOp .And [a] pos) tA:=by
 intro wh pins s O H Q I h;refine isTrue_and (thn (ha pins s O H Q I h) λc s1 e=>?_);cases c with
 |true=>exact isTrue_and_nil e
 |false=>exact e
theorem Aw(ha:PT X a tA):PW X (.BoolOp .Or [a] pos) tA:=by
 intro wh pins s O H Q I h;refine isTrue_or (thn (ha pins s O H Q I h) λc s1 e=>?_);cases c with
 |false=>exact isTrue_or_nil e
 |true=>exact e
theorem Mf(ha:PT X a tA)(hb:PW X (.BoolOp .And (b::rest) pos) tB'):PW X (.BoolOp .And (a::b::rest) pos) (ZP tA tB'):=by
 intro wh pins s O H Q I h;refine isTrue_and (thn (ha pins s O H _ I h) ?_);rintro c s1 ⟨H1,I1,q1⟩;cases c with
 |true=>exact hb wh pins s1 O H1 Q I1 q1
 |false=>exact⟨H1,I1,q1⟩
theorem Ff(ha:PT X a tA)(hb:PW X (.BoolOp .Or (b::rest) pos) tB'):PW X (.BoolOp .Or (a::b::rest) pos) (tOr tA tB'):=by
 intro wh pins s O H Q I h;refine isTrue_or (thn (ha pins s O H _ I h) ?_);rintro c s1 ⟨H1,I1,q1⟩;cases c with
 |true=>exact⟨H1,I1,q1⟩
 |false=>exact hb wh pins s1 O H1 Q I1 q1
theorem qU(ha:PT X a tA):PT X (.UnaryOp .Not a pos) (ZQ tA):=by
 intro pins s O H Q I h;exact isTrue_not (ha pins s O H (λc H1=>Q (!c) H1) I h)
def Xk(ta tb:TE):TE:=λO H Q=>ta O H λx H1=>∃ c,x=.bl c/\if c=true then tb O H1 Q else Q (.bl false) H1
def ZR(ta tb:TE):TE:=λO H Q=>ta O H λx H1=>∃ c,x=.bl c/\if c=true then Q (.bl true) H1 else tb O H1 Q
def Xl(ta:TE):TE:=λO H Q=>ta O H λx H1=>∃ c,x=.bl c/\Q (.bl (!c)) H1
theorem uV{op}{t:TE}(h:PE X a t):PE X (.BoolOp op [a] pos) t:=λpins s O H Q I hw=>BoolOp_one (h pins s O H Q I hw)
theorem uW(ha:PE X a ta)(hb:PE X (.BoolOp .And (b::rest) pos) tb):PE X (.BoolOp .And (a::b::rest) pos) (Xk ta tb):=by
 intro pins s O H Q I h;refine BoolOp_and (thn (ha pins s O H _ I h) ?_);rintro v s1 ⟨x,H1,I1,r1,q1⟩;obtain⟨c,rfl,q1⟩:=q1;cases r1;refine wpAny_truthy_bool ?_;cases c with
 |true=>exact hb pins s1 O H1 Q I1 q1
 |false=>exact⟨.bl false,H1,I1,rfl,q1⟩
theorem ZS(ha:PE X a ta)(hb:PE X (.BoolOp .Or (b::rest) pos) tb):PE X (.BoolOp .Or (a::b::rest) pos) (ZR ta tb):=by
 intro pins s O H Q I h;refine BoolOp_or (thn (ha pins s O H _ I h) ?_);rintro v s1 ⟨x,H1,I1,r1,q1⟩;obtain⟨c,rfl,q1⟩:=q1;cases r1;refine wpAny_truthy_bool ?_;cases c with
 |false=>exact hb pins s1 O H1 Q I1 q1
 |true=>exact⟨.bl true,H1,I1,rfl,q1⟩
theorem Yp(ha:PE X a ta):PE X (.UnaryOp .Not a pos) (Xl ta):=by
 intro pins s O H Q I h;refine UnaryOp_ (thn (ha pins s O H _ I h) ?_);rintro v s1 ⟨x,H1,I1,r1,q1⟩;obtain⟨c,rfl,q1⟩:=q1;cases r1;exact not_of (wpAny_truthy_bool ⟨.bl (!c),H1,I1,rfl,q1⟩)
def tIf(t:TT)(ta tb:TE):TE:=λO H Q=>t O H λc H1=>if c=true then ta O H1 Q else tb O H1 Q
theorem Jj{c:Expr}(hc:PT X c tA)(ha:PE X a ta)(hb:PE X b tb):PE X (.IfExp c a b pos) (tIf tA ta tb):=by
 intro pins s O H Q I h;refine wpAny_IfExp (thn (hc pins s O H _ I h) ?_);rintro d s1 ⟨H1,I1,q1⟩;cases d with
 |true=>exact ha pins s1 O H1 Q I1 q1
 |false=>exact hb pins s1 O H1 Q I1 q1
end
def SqL(K:Frag)(H:Hp)(a:Addr)(xs:List V):Prop:=
 Rd H a (.lst xs) \/
  ∃ (o:Obj) (its:Array Value) (n:Nat),K.lookup a=some o/\o.cls=.type "list"/\o.dict=none/\o.data=.seq its n/\its.size<=sizeLine/\Vals xs its.toList
def SqT(K:Frag)(H:Hp)(a:Addr)(xs:List V):Prop:=
 Rd H a (.tup xs) \/
  ∃ (o:Obj) (its:Array Value) (n:Nat),K.lookup a=some o/\o.cls=.type "tuple"/\o.data=.seq its n/\its.size<=sizeLine/\Vals xs its.toList
def aaJ:Value->Option V
 |.none=>some .non
 |.bool b=>some (.bl b)
 |.int i _=>some (.int i)
 |.str x _=>some (.str x)
 |.bytes b _=>some (.byt b)
 |.float b _=>some (.flt b)
 |.ref a=>some (.ref a)
 |.type n=>some (.ty n)
 |_=>none
theorem RelV.abs{x:V}{u:Value}(r:RelV x u):aaJ u=some x:=by
 cases x with
 |non=>cases r;rfl
 |bl _=>cases r;rfl
 |int _=>obtain⟨t,rfl⟩:=r;rfl
 |str _=>obtain⟨t,rfl⟩:=r;rfl
 |byt _=>obtain⟨t,rfl⟩:=r;rfl
 |flt _=>obtain⟨t,rfl⟩:=r;rfl
 |ref _=>cases r;rfl
 |ty _=>cases r;rfl
theorem RelV.inj{x y:V}{u:Value}(r:RelV x u)(q:RelV y u):x=y:=Zaf (r.abs.symm.trans q.abs)
theorem Vals.inj:∀ {xs ys:List V}{us:List Value},Vals xs us->Vals ys us->xs=ys
 |_,_,_,.nil,.nil=>rfl
 |_,_,_,.cons r t,.cons r' t'=>by rw[r.inj r',Vals.inj t t']
section
variable{X:Cx}{pins:List (Addr×Obj)}{O:St}{H:Hp}{s:Shared}{a:Addr}{xs ys:List V}
theorem SqL.of{K:Frag}(h:H a=some (.lst xs)):SqL K H a xs:=.inl (.inl h)
theorem SqT.of{K:Frag}(h:H a=some (.tup xs)):SqT K H a xs:=.inl (.inl h)
theorem Inv.list(I:Inv X pins O H s)(h:SqL X.K H a xs):∃ its:List Value,Vals xs its/\PlainL s.heap a its.toArray/\xs.length<=sizeLine:=by
 rcases h with h|⟨o,its,n,hk,hc,hd,hs,hz,r⟩
 ·obtain⟨z,its,n,r,e⟩:=h.ok I.hok;exact⟨its,r,⟨_,n,e,rfl,rfl,rfl⟩,z⟩
 ·refine⟨its.toList,r,⟨o,n,I.kIn a o hk,hc,hd,by simpa using hs⟩,?_⟩
  have e:=r.length;simp only[ZaZ] at e;lia
theorem Inv.tuple(I:Inv X pins O H s)(h:SqT X.K H a xs):∃ its:List Value,Vals xs its/\IsTup s.heap a its.toArray/\xs.length<=sizeLine:=by
 rcases h with h|⟨o,its,n,hk,hc,hs,hz,r⟩
 ·obtain⟨z,its,r,p⟩:=h.ok I.hok;exact⟨its,r,p.1,z⟩
 ·refine⟨its.toList,r,⟨o,I.kIn a o hk,hc,n,by simpa using hs⟩,?_⟩
  have e:=r.length;simp only[ZaZ] at e;omega
theorem Inv.qW(I:Inv X pins O H s)(h:SqL X.K H a xs)(h':SqL X.K H a ys):xs=ys:=by
 obtain⟨its,r,⟨o,n,e,_,_,d⟩,_⟩:=I.list h;obtain⟨its',r',⟨o',n',e',_,_,d'⟩,_⟩:=I.list h';rw[e] at e';cases e';rw[d] at d';injection d' with d1 _
 have:its=its':=by simpa using Za3 Array.toList d1
 subst this;exact r.inj r'
theorem Inv.Fg(I:Inv X pins O H s)(h:SqT X.K H a xs)(h':SqT X.K H a ys):xs=ys:=by
 obtain⟨its,r,⟨o,e,_,n,d⟩,_⟩:=I.tuple h;obtain⟨its',r',⟨o',e',_,n',d'⟩,_⟩:=I.tuple h';rw[e] at e';cases e';rw[d] at d';injection d' with d1 _
 have:its=its':=by simpa using Za3 Array.toList d1
 subst this;exact r.inj r'
end
noncomputable abbrev Cx.wish(X:Cx)(E:Value->Shared->Prop):Cx:={ X with xe:=E }
noncomputable abbrev Cx.nox(X:Cx):Cx:=X.wish λ_ _=>False
theorem Cx.Ok.wish{X:Cx}(ok:X.Ok)(E:Value->Shared->Prop):(X.wish E).Ok:=
 ⟨ok.mod,ok.kind,ok.glob,ok.blt,ok.above,ok.inj,ok.has,ok.cab,ok.hd,ok.frames,ok.stk,ok.exf,ok.bs,ok.bsz,ok.noex,ok.exfs,ok.zT,ok.frf⟩
theorem Cx.Ok.qX{X:Cx}{E:Value->Shared->Prop}(ok:(X.wish E).Ok):X.Ok:=
 ⟨ok.mod,ok.kind,ok.glob,ok.blt,ok.above,ok.inj,ok.has,ok.cab,ok.hd,ok.frames,ok.stk,ok.exf,ok.bs,ok.bsz,ok.noex,ok.exfs,ok.zT,ok.frf⟩
section
variable{X:Cx}{pins:List (Addr×Obj)}{O:St}{H:Hp}{s:Shared}{E:Value->Shared->Prop}
theorem Inv.wish(I:Inv X pins O H s)(E:Value->Shared->Prop):Inv (X.wish E) pins O H s:=⟨I.ok.wish E,I.os,I.bare,I.base,I.loc,I.cell,I.free,I.freeC,I.pin,I.hok,I.len⟩
theorem Inv.qX(I:Inv (X.wish E) pins O H s):Inv X pins O H s:=⟨I.ok.qX,I.os,I.bare,I.base,I.loc,I.cell,I.free,I.freeC,I.pin,I.hok,I.len⟩
theorem SP.qX{D:Ends}{f:Flow}{s':Shared}(h:SP (X.wish E) pins D f s'):SP X pins D f s':=by
 cases f with
 |next=>obtain⟨O',H',I,q⟩:=h;exact⟨O',H',I.qX,q⟩
 |brk=>obtain⟨O',H',I,q⟩:=h;exact⟨O',H',I.qX,q⟩
 |cont=>obtain⟨O',H',I,q⟩:=h;exact⟨O',H',I.qX,q⟩
 |ret u=>obtain⟨v,O',H',I,r,q⟩:=h;exact⟨v,O',H',I.qX,r,q⟩
theorem PSs.nox{st:List Stmt}{t:TS}(h:PSs X.nox st t):PSs X st t:=λpins s O H D I hw=>
 Zbn (h pins s O H D (I.wish _) hw) (λ_ _ q=>q.qX) λ_ _ z=>False.elim z
end
section
variable{X:Cx}{st:Stmt}{rest:List Stmt}{t u:TS}{e:Expr}{te:TE}{pos:Pos}
def Xm:TS:=λD O H=>D.nx O H
def Yq(t u:TS):TS:=λD O H=>t { D with nx:=u D } O H
theorem cB:PSs X [] Xm:=λ_ _ O H _ I h=>wpAny_execs_nil ⟨O,H,I,h⟩
theorem aq(h1:PS X st t)(h2:PSs X rest u):PSs X (st::rest) (Yq t u):=by
 intro pins s O H D I h;refine wpAny_execs_cons (thn (h1 pins s O H { D with nx:=u D } I h) λf s1 q=>?_);cases f with
 |next=>
  obtain⟨O',H',I',q⟩:=q;exact h2 pins s1 O' H' D I' q
 |ret v=>exact q
 |brk=>exact q
 |cont=>exact q
theorem aJ(h1:PS X st t):PSs X [st] t:=by
 intro pins s O H D I h;refine wpAny_execs_cons (thn (h1 pins s O H D I h) λf s1 q=>?_);cases f with
 |next=>exact wpAny_execs_nil q
 |ret v=>exact q
 |brk=>exact q
 |cont=>exact q
def Xn:TS:=λD O H=>D.ct O H
theorem zg:PS X (.Continue pos) Xn:=λ_ _ O H _ I h=>wpAny_Continue ⟨O,H,I,h⟩
theorem Inv.quiet{pins:List (Addr×Obj)}{O:St}{H:Hp}{s:Shared}(I:Inv X pins O H s):interactive X.env=false:=by simp[interactive,I.ok.kind]
def Ax(te:TE):TS:=λD O H=>te O H λ_ H1=>D.nx O H1
theorem gV(he:PE X e te)(hs:swapsWith e none pos.line X.env=pure false:=by rfl):PS X (.Expr e pos) (Ax te):=by
 intro pins s O H D I h;exact wpAny_Expr_any (thn (he pins s O H _ I h) λv s1 ⟨x,H1,I1,r1,q1⟩=>⟨O,H1,I1,q1⟩) I.quiet hs
def QG(te:TE):TS:=λD O H=>te O H D.rt
theorem bj(he:PE X e te):PS X (.Return (some e) pos) (QG te):=by
 intro pins s O H D I h;exact wpAny_Return_some (thn (he pins s O H _ I h) λv s1 ⟨x,H1,I1,r1,q1⟩=>⟨x,O,H1,I1,r1,q1⟩)
def ZV(c:TT)(t u:TS):TS:=λD O H=>c O H λb H1=>if b=true then t D O H1 else u D O H1
theorem dY{c:Expr}{a b:List Stmt}{tc:TT}(hc:PT X c tc)(ha:PSs X a t)(hb:PSs X b u):PS X (.If c a b pos) (ZV tc t u):=by
 intro pins s O H D I h;refine wpAny_If (thn (hc pins s O H _ I h) ?_);rintro d s1 ⟨H1,I1,q1⟩;cases d with
 |true=>exact ha pins s1 O H1 D I1 q1
 |false=>exact hb pins s1 O H1 D I1 q1
def R4:TS:=λ_ _ _=>False
theorem Ay:PS X st R4:=λ_ _ _ _ _ _ h=>h.elim
end
noncomputable abbrev TG:=V->St->Hp->(St->Hp->Prop)->Prop
noncomputable abbrev TGs:=List V->St->Hp->(St->Hp->Prop)->Prop
def PG(X:Cx)(target:Expr)(t:TG):Prop:=
 ∀ (pins:List (Addr×Obj)) (s:Shared) (O:St) (H:Hp) (v:V) (u:Value) (Q:St->Hp->Prop),Inv X pins O H s->RelV v u->t v O H Q ->
  wpAny (model X.prog X.w) X.A (assign target X.env u) (λ_ s'=>∃ O' H',Inv X pins O' H' s'/\Q O' H') X.xe s
def PGs(X:Cx)(ts:List Expr)(t:TGs):Prop:=
 ∀ (pins:List (Addr×Obj)) (s:Shared) (O:St) (H:Hp) (vs:List V) (us:List Value) (Q:St->Hp->Prop),Inv X pins O H s->Vals vs us->t vs O H Q ->
  wpAny (model X.prog X.w) X.A (assignInOrder ((assignEach ts X.env).map (·.2)) us) (λ_ s'=>∃ O' H',Inv X pins O' H' s'/\Q O' H') X.xe s
section
variable{X:Cx}{pos:Pos}
def zj(i:Nat):TG:=λv O H Q=>Q (O.set i (some v)) H
theorem cX{i:Nat}{x:Str}(hN:X.N.Nodup)(hi:X.N[i]?=some x)(hx:Loc X.env.scope x)(hf:X.fn x=true\/X.env.scope.names.lookup x=some .local:=by first|exact .inl rfl|exact .inr rfl|assumption):PG X (.Name x pos) (zj i):=by
 intro pins s O H v u Q I r h;exact wpAny_assign_Name (Ji I hN hi hx r (λs' I'=>⟨_,H,I',h⟩) hf)
def R5:TGs:=λvs O H Q=>vs=[]/\Q O H
def Xo(t:TG)(u:TGs):TGs:=λvs O H Q=>∃ v r,vs=v::r/\t v O H λO' H'=>u r O' H' Q
theorem n6:PGs X [] R5:=by
 intro pins s O H vs us Q I r h;obtain⟨e,h⟩:=h;subst e;cases r;exact assignInOrder_nil ⟨O,H,I,h⟩
theorem dC{e:Expr}{es:List Expr}{t:TG}{u:TGs}(h1:PG X e t)(h2:PGs X es u)
  (hs:(assignEach (e::es) X.env).map (·.2)=assign e X.env::(assignEach es X.env).map (·.2):=by rfl):PGs X (e::es) (Xo t u):=by
 intro pins s O H vs us Q I r h;obtain⟨v,vr,e1,h⟩:=h;subst e1;cases r with
 |cons r rr=>
  rw[hs];refine assignInOrder_cons (thn (h1 pins s O H _ _ _ I r h) ?_);rintro _ s1 ⟨σ1,H1,I1,q1⟩;exact h2 pins s1 σ1 H1 _ _ Q I1 rr q1
def Yr(K:Frag)(n:Nat)(t:TGs):TG:=λv O H Q=>∃ a xs,v=.ref a/\SqT K H a xs/\xs.length=n/\t xs O H Q
theorem GK{es:List Expr}{k:Nat}{t:TGs}{n:Nat}(hc:X.calm=true)(h:PGs X es t)
  (hn:(assignEach es X.env).length=n:=by rfl)(hst:(assignEach es X.env).findIdx? (·.1)=none:=by rfl):PG X (.Tuple es k pos) (Yr X.K n t):=by
 intro pins s O H v u Q I r hw;obtain⟨a,xs,e1,hq,hl,hw⟩:=hw;subst e1;cases r;obtain⟨its,rv,ht,hz⟩:=I.tuple hq;refine assign_Tuple_tuple (I.ok.hd hc) ht (by simp[hn,<-hl,rv.length]) hst λh' hx=>?_
 have I1:Inv X pins O H { s with heap:=h' }:=I.kept (t':=s.toks) λb o e=>hx b o (ZaE (Zat e)) e;exact h pins _ O H xs _ Q I1 (by simpa using rv) hw
def QH(te:TE)(g:TG):TS:=λD O H=>te O H λx H1=>g x O H1 D.nx
theorem aR{i:Nat}{x:Str}{e:Expr}{te:TE}{pos':Pos}(hN:X.N.Nodup)(hi:X.N[i]?=some x)(hx:Loc X.env.scope x)(he:PE X e te)(hs:swapsWith e (some (.Name x pos')) pos.line X.env=pure false:=by rfl)(hf:X.fn x=true\/X.env.scope.names.lookup x=some .local:=by first|exact .inl rfl|exact .inr rfl|assumption) :
  PS X (.Assign [.Name x pos'] e pos) (QH te (zj i)):=by
 intro pins s O H D I h;refine wpAny_Assign_Name (thn (he pins s O H _ I h) ?_) hs;rintro v s1 ⟨y,H1,I1,r1,q1⟩;exact Ji I1 hN hi hx r1 (λs2 I2=>⟨_,H1,I2,q1⟩) hf
end
section
variable{X:Cx}{pos:Pos}
def Mg(c:TT)(tb:TS):TS:=λD O H=>∃ W:Nat->St->Hp->Prop,(∃ m,W m O H)/\∀ m O H,W m O H ->
 c O H λb H1=>if b=true then ∃ N:St->Hp->Prop,(∀ O' H',N O' H'->∃ m',m'<m/\W m' O' H')/\tb { D with nx:=N,ct:=N,bk:=D.nx } O H1 else D.nx O H1
theorem vZ{c:Expr}{body:List Stmt}{tc:TT}{tb:TS}(hp:PassesOwn (model X.prog X.w) X.A X.env X.xe)(hc:PT X c tc)(hb:PSs X body tb):PS X (.While c body [] pos) (Mg tc tb):=by
 intro pins s O H D I h;obtain⟨W,⟨m0,w0⟩,turn⟩:=h;refine wpAny_While (codeAny_whileLoop (λn s'=>∃ O' H',Inv X pins O' H' s'/\W n O' H') ?_ m0 ⟨O,H,I,w0⟩);rintro n s1 ⟨σ1,H1,I1,w1⟩;refine wpAny_passesOwn hp (thn (hc pins s1 σ1 H1 _ I1 (turn n σ1 H1 w1)) ?_);rintro b s2 ⟨H2,I2,q2⟩;cases b with
 |true=>
  obtain⟨N,hN,q2⟩:=q2;rw[Zan rfl];refine wpAny_passesOwn hp (thn (hb pins s2 σ1 H2 _ I2 q2) λf s3 q3=>?_);cases f with
  |next=>
   obtain⟨σ3,H3,I3,n3⟩:=q3;obtain⟨m',hm,w3⟩:=hN σ3 H3 n3;exact⟨m',hm,σ3,H3,I3,w3⟩
  |cont=>
   obtain⟨σ3,H3,I3,n3⟩:=q3;obtain⟨m',hm,w3⟩:=hN σ3 H3 n3;exact⟨m',hm,σ3,H3,I3,w3⟩
  |brk=>exact q3
  |ret v=>exact q3
 |false=>
  rw[Zam Zbk];exact wpAny_execs_nil ⟨σ1,H2,I2,q2⟩
end
structure It where
 go:Nat->Hp->Prop
 yld:Nat->Hp->V->Hp->Prop
 stop:Nat->Hp->Prop
def Az(X:Cx)(pins:List (Addr×Obj))(H:Hp)(b:Addr):Prop:=
 H b=none/\b≠X.env.locals/\b ∉ X.fs/\(b∈X.ex\/X.s₀.heap.objs.size<=b)/\(∀ x c,X.env.cells.lookup x=some c->c≠b)/\∀ p∈X.pn++pins,p.1≠b
theorem Inv.Ej{X:Cx}{pins:List (Addr×Obj)}{O:St}{H H':Hp}{s:Shared}{b:Addr}(I:Inv X pins O H s)(hb:s.heap.objs.size<=b)(hn:H' b=none):Az X pins H' b:=by
 refine⟨hn,Zb5 (ZaH I.lt hb),I.aaI hb,.inr (ZaI I.sz hb),λx c e z=>?_,λp hp z=>?_⟩
 ·obtain⟨v,q⟩:=I.cell x c e;exact absurd (ZaH q.lt (by rw[z];exact hb)) (ZbU _)
 ·exact absurd (ZaH (Zat (I.pin p hp).1) (by rw[z];exact hb)) (ZbU _)
structure Turn(P:Program)(w:World)(K:Frag)(tg:Expr)(J:It)(fp:List Addr)(it:Addr)(tn:Nat->Heap->Prop):Prop where
 mem:it∈fp
 obj:∀ i h,tn i h->∀ b∈fp,∃ o,h.get? b=some o/\∀ v,o.data≠.cell v
 keep:∀ i h h',tn i h->(∀ b∈fp,∀ o,h.get? b=some o->h'.get? b=some o)->tn i h'
 item:∀ (X:Cx),X.prog=P->X.w=w->X.K=K->X.calm=true->∀ (i:Nat) (pins:List (Addr×Obj)) (s:Shared) (O:St) (H:Hp) (E:Value->Shared->Prop),Inv X pins O H s->(∀ b∈fp,Az X pins H b)->tn i s.heap->J.go i H ->
  wpAny (model P w) X.A (pyNext (.ref it)) (λr s1=>∃ u,r=some u /\
   wpAny (model P w) X.A (letOwnedTupleGo tg (.ref it) u) (λ_ s2=>∃ x H',Inv X pins O H' s2/\RelV x u/\J.yld i H x H'/\tn (i+1) s2.heap/\∀ b∈fp,H' b=none) E s1) E s
 done:∀ (X:Cx),X.prog=P->X.w=w->X.K=K->X.calm=true->∀ (i:Nat) (pins:List (Addr×Obj)) (s:Shared) (O:St) (H:Hp) (E:Value->Shared->Prop),Inv X pins O H s->(∀ b∈fp,Az X pins H b)->tn i s.heap->J.stop i H ->
  wpAny (model P w) X.A (pyNext (.ref it)) (λr s1=>r=none/\Inv X pins O H s1) E s
 self:∀ (A:Around) (i:Nat) (s:Shared) (Q:Value->Shared->Prop) (E:Value->Shared->Prop),tn i s.heap->Q (.ref it) s->wpAny (model P w) A (pyIter (.ref it)) Q E s
noncomputable abbrev TI:=St->Hp->(It->Hp->Prop)->Prop
def PIE(X:Cx)(pins:List (Addr×Obj))(O:St)(tg:Expr)(R:It->Hp->Prop)(itv:Value)(s2:Shared):Prop:=
 ∃ (it:Addr) (fp:List Addr) (tn:Nat->Heap->Prop) (J:It) (H':Hp),itv=.ref it/\Inv X pins O H' s2/\Turn X.prog X.w X.K tg J fp it tn/\tn 0 s2.heap/\(∀ b∈fp,Az X pins H' b)/\R J H'
def PI(X:Cx)(tg iter:Expr)(wi:TI):Prop:=
 ∀ (pins:List (Addr×Obj)) (s:Shared) (O:St) (H:Hp) (R:It->Hp->Prop),Inv X pins O H s->wi O H R ->
  wpAny (model X.prog X.w) X.A (eval iter X.env) (λv s1=>wpAny (model X.prog X.w) X.A (pyIter v) (PIE X pins O tg R) X.xe s1) X.xe s
theorem Fi{M:Model}{A:Around}{E:Value->Shared->Prop}{s:Shared}{tg:Expr}{it:Addr}{u:Value}{o:Obj}{n:String}{vs:Array Value}{Q:Unit->Shared->Prop}(ho:s.heap.get? it=some o)(hc:o.cls=.type n)(hd:o.data=.fields vs)
  (hn:["enumerate","zip","dict_itemiterator","dict_reverseitemiterator","odict_iterator","itertools.zip_longest","itertools.pairwise"].contains n=false)(hQ:Q () s):wpAny M A (letOwnedTupleGo tg (.ref it) u) Q E s:=by
 unfold letOwnedTupleGo;cases tg<;>first
  |exact Zaj hQ
  |(cases u<;>first
    |exact Zaj hQ
    |(refine Zaa (wpAny_load ho ?_)
      rw[hc,hd];show wpAny M A (if(["enumerate","zip","dict_itemiterator","dict_reverseitemiterator","odict_iterator","itertools.zip_longest","itertools.pairwise"].contains n&&vs[0]?==some (rawInt _))=true then _ else _) Q E s
      rw[Zam (by intro h;rw[hn,Bool.false_and] at h;cases h)]
      exact Zaj hQ))
def Itl(K:Frag)(a:Addr):It:=
 ⟨λi H=>∃ xs x,SqL K H a xs/\xs[i]?=some x,λi H x H'=>H'=H/\∀ xs,SqL K H a xs->xs[i]?=some x,λi H=>∃ xs,SqL K H a xs/\xs.length<=i⟩
def Itt(K:Frag)(a:Addr):It:=
 ⟨λi H=>∃ xs x,SqT K H a xs/\xs[i]?=some x,λi H x H'=>H'=H/\∀ xs,SqT K H a xs->xs[i]?=some x,λi H=>∃ xs,SqT K H a xs/\xs.length<=i⟩
def Itr(lo:Int)(n:Nat):It:=⟨λi _=>i<n,λi H x H'=>H'=H/\x=.int (lo+i),λi _=>n<=i⟩
theorem QJ{P:Program}{w:World}{K:Frag}{tg:Expr}(a it:Addr):Turn P w K tg (Itl K a) [it] it (λi h=>h.IsListIter it a i) where
 mem:=by simp
 obj:=λi h st b hb=>by
  have e:b=it:=by simpa using hb
  subst e;obtain⟨o,e,c,d⟩:=st;exact⟨o,e,λv z=>by rw[d] at z;cases z⟩
 keep:=λi h h' st k=>st.at λo e=>k it (by simp) o e
 item:=by
  intro X hP hw hK hc i pins s O H E I hf st hg;subst hP hw hK;obtain⟨xs,x,hq,hx⟩:=hg;obtain⟨its,rv,p,hz⟩:=I.list hq;obtain⟨u,hu,ru⟩:=rv.get hx;obtain⟨f0,f1,f2,f3,f4,f5⟩:=hf it (by simp)
  refine wpAny_pyNext_list_item st p.isList (x:=u) (by simpa using hu) λh' st' sb=>?_
  have I1:Inv X pins O H { s with heap:=h' }:=I.turned (t':=s.toks) (λb o hb e=>(sb.2 b hb).trans e) f0 f1 f3 f4 f5;obtain⟨o,e,c,d⟩:=id st';exact⟨u,rfl,Fi (s:={ s with heap:=h' }) e c d (by decide) ⟨x,H,I1,ru,⟨rfl,λys hy=>by rw[I.qW hy hq];exact hx⟩,st',λb hb=>(hf b hb).1⟩⟩
 done:=by
  intro X hP hw hK hc i pins s O H E I hf st hg;subst hP hw hK;obtain⟨xs,hq,hx⟩:=hg;obtain⟨its,rv,p,hz⟩:=I.list hq;obtain⟨f0,f1,f2,f3,f4,f5⟩:=hf it (by simp)
  have hl:=rv.length;exact wpAny_pyNext_list_end (I.ok.hd hc) st p.isList (by simp;lia) λh' eb=>⟨rfl,I.turned (t':=s.toks) (λb o hb e=>eb b o hb e) f0 f1 f3 f4 f5⟩
 self:=λ_ _ _ _ _ st h=>wpAny_pyIter_listiter st h
theorem Mh{P:Program}{w:World}{K:Frag}{tg:Expr}(a it:Addr):Turn P w K tg (Itt K a) [it] it (λi h=>h.IsTupleIter it a i) where
 mem:=by simp
 obj:=λi h st b hb=>by
  have e:b=it:=by simpa using hb
  subst e;obtain⟨o,e,c,d⟩:=st;exact⟨o,e,λv z=>by rw[d] at z;cases z⟩
 keep:=λi h h' st k=>st.at λo e=>k it (by simp) o e
 item:=by
  intro X hP hw hK hc i pins s O H E I hf st hg;subst hP hw hK;obtain⟨xs,x,hq,hx⟩:=hg;obtain⟨its,rv,p,hz⟩:=I.tuple hq;obtain⟨u,hu,ru⟩:=rv.get hx;obtain⟨f0,f1,f2,f3,f4,f5⟩:=hf it (by simp)
  refine wpAny_pyNext_tuple_item st (show s.heap.IsTuple a its.toArray from p) (x:=u) (by simpa using hu) λh' st' sb=>?_
  have I1:Inv X pins O H { s with heap:=h' }:=I.turned (t':=s.toks) (λb o hb e=>(sb.2 b hb).trans e) f0 f1 f3 f4 f5;obtain⟨o,e,c,d⟩:=id st';exact⟨u,rfl,Fi (s:={ s with heap:=h' }) e c d (by decide) ⟨x,H,I1,ru,⟨rfl,λys hy=>by rw[I.Fg hy hq];exact hx⟩,st',λb hb=>(hf b hb).1⟩⟩
 done:=by
  intro X hP hw hK hc i pins s O H E I hf st hg;subst hP hw hK;obtain⟨xs,hq,hx⟩:=hg;obtain⟨its,rv,p,hz⟩:=I.tuple hq;obtain⟨f0,f1,f2,f3,f4,f5⟩:=hf it (by simp)
  have hl:=rv.length;exact wpAny_pyNext_tuple_end (I.ok.hd hc) st (show s.heap.IsTuple a its.toArray from p) (by simp;omega) λh' eb=>⟨rfl,I.turned (t':=s.toks) (λb o hb e=>eb b o hb e) f0 f1 f3 f4 f5⟩
 self:=λ_ _ _ _ _ st h=>wpAny_pyIter_tupleiter st h
theorem Mi{P:Program}{w:World}{K:Frag}{tg:Expr}(it:Addr)(lo:Int)(n:Nat):Turn P w K tg (Itr lo n) [it] it (λi h=>IsRangeIter h it (lo+(i:Nat)*1) ((n:Int)-(i:Nat)) 1) where
 mem:=by simp
 obj:=λi h st b hb=>by
  have e:b=it:=by simpa using hb
  subst e;exact⟨_,st,λv z=>by
   have z':Data.fields _=Data.cell v:=z;cases z'⟩
 keep:=λi h h' st k=>k it (by simp) _ st
 item:=by
  intro X hP hw hK hc i pins s O H E I hf st hg;subst hP hw hK;obtain⟨f0,f1,f2,f3,f4,f5⟩:=hf it (by simp)
  have W:=Walks.range (prog:=X.prog) (w:=X.w) (I.ok.hd hc) it lo 1 n;refine W.item i s _ _ hg st λv h' tk hv st' kk=>?_;obtain⟨t,rfl⟩:=hv;have I1:Inv X pins O H { s with heap:=h',toks:=tk }:=I.turned (λb o hb e=>kk b o (by simpa using hb) e) f0 f1 f3 f4 f5
  refine⟨_,rfl,Fi (s:={ s with heap:=h',toks:=tk }) (n:="range_iterator") st' rfl rfl (by decide) ⟨.int (lo+i),H,I1,⟨t,?_⟩,⟨rfl,rfl⟩,st',λb hb=>(hf b hb).1⟩⟩
  rw[Int.mul_one]
 done:=by
  intro X hP hw hK hc i pins s O H E I hf st hg;subst hP hw hK;obtain⟨f0,f1,f2,f3,f4,f5⟩:=hf it (by simp)
  exact wpAny_pyNext_range_end (I.ok.hd hc) st (by have:n<=i:=hg;omega) λh' eb=>⟨rfl,I.turned (t':=s.toks) (λb o hb e=>eb b o hb e) f0 f1 f3 f4 f5⟩
 self:=λ_ _ _ _ _ st h=>wpAny_pyIter_rangeiter st h
section
variable{X:Cx}{tg:Expr}
theorem Jk{pins:List (Addr×Obj)}{O:St}{H:Hp}{s:Shared}{R:It->Hp->Prop}{E:Value->Shared->Prop}{lo hi:Int}{t u v:Tok}{tk:Nat}(I:Inv X pins O H s)(h1:-(2^62)<=lo)(h2:lo<2^62)(h3:-(2^62)<=hi)(h4:hi<2^62)
  (q:R (Itr lo (hi-lo).toNat) H):wpAny (model X.prog X.w) X.A (pyIter (.ref s.heap.objs.size)) (PIE X pins O tg R) E { s with heap:=s.heap.push { cls:=.type "range",data:=.fields #[.int lo t,.int hi u,.int 1 v] },toks:=tk }:=by
 refine wpAny_pyIter_range (IsRange.new ..) (small_one h1 h2 h3 h4) ?_;have I1:Inv X pins O H { s with heap:=s.heap.push { cls:=.type "range",data:=.fields #[.int lo t,.int hi u,.int 1 v] },toks:=tk }:=I.kept λb o e=>Zai _ e;refine⟨(s.heap.push { cls:=.type "range",data:=.fields #[.int lo t,.int hi u,.int 1 v] }).objs.size,[(s.heap.push { cls:=.type "range",data:=.fields #[.int lo t,.int hi u,.int 1 v] }).objs.size],_,_,H,rfl,
  I1.kept (t':=tk) λb o e=>Zai _ e,Mi _ lo (hi-lo).toNat,?_,λb hb=>?_,q⟩
 ·have e1:lo+((0:Nat):Int)*1=lo:=by simp
  have e2:(((hi-lo).toNat:Nat):Int)-((0:Nat):Int)=Builtin.Range.rangeSize lo hi 1:=by rw[rangeSize_one];split<;>omega
  show IsRangeIter _ _ (lo+((0:Nat):Int)*1) ((((hi-lo).toNat:Nat):Int)-((0:Nat):Int)) 1
  rw[e1,e2];exact Zar _ rfl
 ·have e:b=(s.heap.push { cls:=.type "range",data:=.fields #[.int lo t,.int hi u,.int 1 v] }).objs.size:=by simpa using hb
  subst e;exact I1.Ej (Zal _) (I1.hok.fresh (Zal _))
def Xp(ta:TA):TI:=λO H R=>ta O H λvs H1=>∃ j:Int,vs=[.int j]/\-(2^62)<=j/\j<2^62/\R (Itr 0 j.toNat) H1
def Xq(ta:TA):TI:=λO H R=>ta O H λvs H1=>∃ i j:Int,vs=[.int i,.int j]/\(-(2^62)<=i/\i<2^62/\-(2^62)<=j/\j<2^62)/\R (Itr i (j-i).toNat) H1
theorem gW{a:Expr}{ta:TA}{p pos:Pos}(hg:Gl X "range")(hm:X.mg "range"=none)(ha:PA X [a] ta)(hs:starEach [a] X.env=[(false,eval a X.env)]:=by rfl):PI X tg (.Call (.Name "range" p) [a] [] pos) (Xp ta):=by
 intro pins s O H R I h;refine Call_ (uU I hg hm boot_range (Zbo (thn (ha pos pins s O H _ I h) ?_) hs rfl));rintro us s1 ⟨vs,H1,I1,r1,q1⟩;obtain⟨j,e,q1,q2,q⟩:=q1;subst e;cases r1 with
 |cons r rr=>
  cases rr;obtain⟨t,rfl⟩:=r;exact call_range_1 (Jk I1 (by omega) (by omega) q1 q2 (by simpa using q))
theorem Fj{a b:Expr}{ta:TA}{p pos:Pos}(hg:Gl X "range")(hm:X.mg "range"=none)(ha:PA X [a,b] ta)(hs:starEach [a,b] X.env=[(false,eval a X.env),(false,eval b X.env)]:=by rfl)(hs2:starEach [b] X.env=[(false,eval b X.env)]:=by rfl) :
  PI X tg (.Call (.Name "range" p) [a,b] [] pos) (Xq ta):=by
 intro pins s O H R I h;refine Call_ (uU I hg hm boot_range (Zbo (thn (ha pos pins s O H _ I h) ?_) (by rw[hs,hs2]) (by rw[hs2];rfl)))
 rintro us s1 ⟨vs,H1,I1,r1,q1⟩;obtain⟨i,j,e,⟨q1,q2,q3,q4⟩,q⟩:=q1;subst e;cases r1 with
 |cons r rr=>
  cases rr with
  |cons r' rr=>
   cases rr;obtain⟨t,rfl⟩:=r;obtain⟨t',rfl⟩:=r';exact call_range_2 (Jk I1 q1 q2 q3 q4 q)
def Ys(wi:TI)(g:TG)(tb:TS):TS:=λD O H=>wi O H λJ H1=>∃ W:Nat->Nat->St->Hp->Prop,(∃ m,W 0 m O H1)/\∀ i m O H,W i m O H ->
 (J.stop i H/\D.nx O H)\/(J.go i H/\∃ N:St->Hp->Prop,(∀ O' H',N O' H'->∃ m',m'<m/\W (i+1) m' O' H')/\∀ x H',J.yld i H x H'->g x O H' λσ2 H2=>tb { D with nx:=N,ct:=N,bk:=D.nx } σ2 H2)
def Ba(fp:List Addr)(h:Heap):List (Addr×Obj):=fp.filterMap λb=>(h.get? b).map λo=>(b,o)
theorem p8{fp:List Addr}{h:Heap}{b:Addr}{o:Obj}(hb:b∈fp)(e:h.get? b=some o):(b,o)∈Ba fp h:=List.mem_filterMap.mpr ⟨b,hb,by rw[e];rfl⟩
theorem QK{fp:List Addr}{h:Heap}{p:Addr×Obj}(hp:p∈Ba fp h):p.1∈fp/\h.get? p.1=some p.2:=by
 obtain⟨b,hb,e⟩:=List.mem_filterMap.mp hp;cases q:h.get? b with
 |none=>rw[q] at e;cases e
 |some o=>
  rw[q] at e;have e':(b,o)=p:=Zaf e;subst e';exact⟨hb,q⟩
theorem Inv.pinned{pins:List (Addr×Obj)}{O:St}{H:Hp}{s:Shared}{fp:List Addr}(I:Inv X pins O H s)(hf:∀ b∈fp,Az X pins H b)(ho:∀ b∈fp,∃ o,s.heap.get? b=some o/\∀ v,o.data≠.cell v):Inv X (pins++Ba fp s.heap) O H s:=
 I.Od λp hp=>(ZaK.mp hp).elim (λz=>I.pin p (ZaN _ z)) λz=>by
  obtain⟨hb,e⟩:=QK z;obtain⟨f0,f1,f2,_⟩:=hf p.1 hb;obtain⟨o,e',d⟩:=ho p.1 hb;rw[e] at e';cases e';exact⟨e,f0,f1,f2,d⟩
theorem Inv.wg{pins pl:List (Addr×Obj)}{O:St}{H:Hp}{s:Shared}(I:Inv X (pins++pl) O H s):Inv X pins O H s:=I.Od λp hp=>I.pin p (ZaN _ (Zbv _ hp))
theorem fW{iter:Expr}{body:List Stmt}{wi:TI}{g:TG}{tb:TS}{pos:Pos}(hp:PassesOwn (model X.prog X.w) X.A X.env X.xe)(hc:X.calm=true)(hi:PI X tg iter wi)(hg:PG X tg g)(hb:PSs X body tb)
  (hs:∀ x,foldedSetIterable iter X.env x=pure x:=by intro _;rfl):PS X (.For tg iter body [] pos) (Ys wi g tb):=by
 intro pins s O H D I h;refine wpAny_For (thn (hi pins s O H _ I h) λv s1 h1=>thn h1 λitv s2 h2=>?_) hs;obtain⟨it,fp,tn,J,H2,e,I2,T,st2,f2,W,⟨m0,w0⟩,turn⟩:=h2;subst e;have stat:∀ {H':Hp},(∀ b∈fp,H' b=none)->∀ b∈fp,Az X pins H' b:=λhn b hb=>⟨hn b hb,(f2 b hb).2⟩;refine codeAny_forLoop_any (λn s'=>∃ i O' H',Inv X pins O' H' s'/\tn i s'.heap/\(∀ b∈fp,H' b=none)/\W i n O' H') ?_ m0 ⟨0,O,H2,I2,st2,λb hb=>(f2 b hb).1,w0⟩;rintro n s3 ⟨i,σ3,H3,I3,st3,fr3,w3⟩;rcases turn i n σ3 H3 w3 with⟨stop,qn⟩|⟨go,N,hN,step⟩
 ·refine wpAny_passesOwn hp (thn (T.done X rfl rfl rfl hc i pins s3 σ3 H3 X.xe I3 (stat fr3) st3 stop) ?_);rintro r s4 ⟨hr,I4⟩;subst hr;exact wpAny_execs_nil ⟨σ3,H3,I4,qn⟩
 ·refine wpAny_passesOwn hp (thn (T.item X rfl rfl rfl hc i pins s3 σ3 H3 X.xe I3 (stat fr3) st3 go) ?_);rintro r s4 ⟨u,hr,h4⟩;subst hr;refine wpAny_passesOwn hp (thn h4 ?_);rintro _ s5 ⟨x,H5,I5,r5,y5,st5,fr5⟩;have I5':=I5.pinned (stat fr5) (T.obj _ _ st5);refine wpAny_passesOwn hp (thn (hg _ s5 σ3 H5 x u _ I5' r5 (step x H5 y5)) ?_);rintro _ s6 ⟨σ6,H6,I6,q6⟩;refine wpAny_passesOwn hp (thn (hb _ s6 σ6 H6 _ I6 q6) λf s7 q7=>?_);have again:∀ {σ7:St}{H7:Hp},Inv X (pins++Ba fp s5.heap) σ7 H7 s7->N σ7 H7->∃ m,m<n/\∃ i O' H',Inv X pins O' H' s7/\tn i s7.heap/\(∀ b∈fp,H' b=none)/\W i m O' H':=λ{σ7 H7} I7 n7=>by
   obtain⟨m',hm,w7⟩:=hN σ7 H7 n7;refine⟨m',hm,i+1,σ7,H7,I7.wg,T.keep _ _ _ st5 λb hb o e=>(I7.pin (b,o) (ZaN _ (ZaN _ (p8 hb e)))).1,λb hb=>?_,w7⟩;obtain⟨o,e,d⟩:=T.obj _ _ st5 b hb;exact(I7.pin (b,o) (ZaN _ (ZaN _ (p8 hb e)))).2.1
  cases f with
  |next=>obtain⟨σ7,H7,I7,n7⟩:=q7;exact again I7 n7
  |cont=>obtain⟨σ7,H7,I7,n7⟩:=q7;exact again I7 n7
  |brk=>obtain⟨σ7,H7,I7,q7⟩:=q7;exact⟨σ7,H7,I7.wg,q7⟩
  |ret v=>obtain⟨x7,σ7,H7,I7,r7,q7⟩:=q7;exact⟨x7,σ7,H7,I7.wg,r7,q7⟩
end
noncomputable abbrev R2:=V->V->Hp->VK->Prop
def OpR(X:Cx)(f:Value->Value->Sem Value)(r:R2):Prop:=
 ∀ (pins:List (Addr×Obj)) (s:Shared) (O:St) (H:Hp) (x y:V) (v u:Value) (Q:VK),Inv X pins O H s->RelV x v->RelV y u->r x y H Q ->
  wpAny (model X.prog X.w) X.A (f v u) (EP X pins O Q) X.xe s
def UnR(X:Cx)(f:Value->Sem Value)(r:V->Hp->VK->Prop):Prop:=
 ∀ (pins:List (Addr×Obj)) (s:Shared) (O:St) (H:Hp) (x:V) (v:Value) (Q:VK),Inv X pins O H s->RelV x v->r x H Q ->
  wpAny (model X.prog X.w) X.A (f v) (EP X pins O Q) X.xe s
def mW(X:Cx)(f:Value)(r:List V->Hp->VK->Prop):Prop:=
 ∀ (pins:List (Addr×Obj)) (s:Shared) (O:St) (H:Hp) (xs:List V) (us:List Value) (Q:VK),Inv X pins O H s->Vals xs us->r xs H Q ->
  wpAny (model X.prog X.w) X.A (call f us) (EP X pins O Q) X.xe s
def tOp(r:R2)(ta tb:TE):TE:=λO H Q=>ta O H λx H1=>tb O H1 λy H2=>r x y H2 Q
def tUn(r:V->Hp->VK->Prop)(ta:TE):TE:=λO H Q=>ta O H λx H1=>r x H1 Q
def rI(C:Int->Int->Prop)(g:Int->Int->V):R2:=λx y H Q=>∃ i j,x=.int i/\y=.int j/\C i j/\Q (g i j) H
def rI0(g:Int->Int->V):R2:=λx y H Q=>∃ i j,x=.int i/\y=.int j/\Q (g i j) H
def rU(g:Int->V):V->Hp->VK->Prop:=λx H Q=>∃ i,x=.int i/\Q (g i) H
section
variable{X:Cx}{a b:Expr}{ta tb:TE}{pos:Pos}
theorem Yt(ha:PE X a ta)(hb:PE X b tb){pins:List (Addr×Obj)}{s:Shared}{O:St}{H:Hp}{R:V->V->Hp->Prop}(I:Inv X pins O H s)
  (h:ta O H λx H1=>tb O H1 λy H2=>R x y H2){Q:Value->Shared->Prop}{f:Value->Value->Sem Value}
  (hf:∀ v u s2 x y H2,Inv X pins O H2 s2->RelV x v->RelV y u->R x y H2->wpAny (model X.prog X.w) X.A (f v u) Q X.xe s2) :
  wpAny (model X.prog X.w) X.A (eval a X.env) (λv s₁=>wpAny (model X.prog X.w) X.A (eval b X.env) (λu s₂=>wpAny (model X.prog X.w) X.A (f v u) Q X.xe s₂) X.xe s₁) X.xe s:=by
 refine thn (ha pins s O H _ I h) ?_;rintro v s1 ⟨x,H1,I1,r1,q1⟩;refine thn (hb pins s1 O H1 _ I1 q1) ?_;rintro u s2 ⟨y,H2,I2,r2,q2⟩;exact hf v u s2 x y H2 I2 r1 r2 q2
theorem aZ{op:Operator}{r:R2}(ho:OpR X (binaryOp op) r)(ha:PE X a ta)(hb:PE X b tb):PE X (.BinOp a op b pos) (tOp r ta tb):=by
 intro pins s O H Q I h;exact wpAny_BinOp (Yt ha hb I h λv u s2 x y H2 I2 rx ry q=>ho pins s2 O H2 x y v u Q I2 rx ry q)
theorem Og{op:UnaryOp}{r:V->Hp->VK->Prop}(ho:UnR X (unaryOp op) r)(ha:PE X a ta):PE X (.UnaryOp op a pos) (tUn r ta):=by
 intro pins s O H Q I h;exact UnaryOp_ (thn (ha pins s O H _ I h) λv s1 ⟨x,H1,I1,r1,q1⟩=>ho pins s1 O H1 x v Q I1 r1 q1)
theorem opI{f:Value->Value->Sem Value}{C:Int->Int->Prop}{g:Int->Int->Int}
  (rule:∀ (i j:Int) (t u:Tok) (s:Shared) (Q:Value->Shared->Prop) (E:Value->Shared->Prop),C i j->Q (.int (g i j) s.toks) { s with toks:=s.toks+1 }->wpAny (model X.prog X.w) X.A (f (.int i t) (.int j u)) Q E s) :
  OpR X f (rI C λi j=>.int (g i j)):=by
 intro pins s O H x y v u Q I rx ry h;obtain⟨i,j,rfl,rfl,hc,q⟩:=h;obtain⟨t,rfl⟩:=rx;obtain⟨t',rfl⟩:=ry;exact rule i j t t' s _ _ hc ⟨.int (g i j),H,I.tok _,⟨_,rfl⟩,q⟩
theorem V2{f:Value->Value->Sem Value}{g:Int->Int->Int}
  (rule:∀ (i j:Int) (t u:Tok) (s:Shared) (Q:Value->Shared->Prop) (E:Value->Shared->Prop),Q (.int (g i j) s.toks) { s with toks:=s.toks+1 }->wpAny (model X.prog X.w) X.A (f (.int i t) (.int j u)) Q E s) :
  OpR X f (rI0 λi j=>.int (g i j)):=by
 intro pins s O H x y v u Q I rx ry h;obtain⟨i,j,rfl,rfl,q⟩:=h;obtain⟨t,rfl⟩:=rx;obtain⟨t',rfl⟩:=ry;exact rule i j t t' s _ _ ⟨.int (g i j),H,I.tok _,⟨_,rfl⟩,q⟩
theorem V3{f:Value->Value->Sem Value}{g:Int->Int->Bool}
  (rule:∀ (i j:Int) (t u:Tok) (s:Shared) (Q:Value->Shared->Prop) (E:Value->Shared->Prop),Q (.bool (g i j)) s->wpAny (model X.prog X.w) X.A (f (.int i t) (.int j u)) Q E s) :
  OpR X f (rI0 λi j=>.bl (g i j)):=by
 intro pins s O H x y v u Q I rx ry h;obtain⟨i,j,rfl,rfl,q⟩:=h;obtain⟨t,rfl⟩:=rx;obtain⟨t',rfl⟩:=ry;exact rule i j t t' s _ _ ⟨.bl (g i j),H,I,rfl,q⟩
def Yu(i j:Int):Prop:=0<j/\j<1073741824
def R6(i j:Int):Prop:=0<=j/\j<=1000000/\i.natAbs<2^64
def Mj(i j:Int):Prop:=(-(2^64)<i/\i<2^64)\/(-(2^64)<j/\j<2^64)
theorem Mj.ok{i j:Int}(h:Mj i j):IntMulOk i j:=by
 rcases h with⟨h1,h2⟩|⟨h1,h2⟩
 ·exact .of_left (intBits_le_64 h1 h2)
 ·exact .of_right (intBits_le_64 h1 h2)
theorem Ml(k:Nat):(0:Int)<=2^k:=by
 rw[two_pow_cast];exact ZaU _
theorem Yv:OpR X (binaryOp .Add) (rI0 λi j=>.int (i+j)):=V2 λ_ _ _ _ _ _ _ q=>add_int q
theorem Bb:OpR X (binaryOp .Sub) (rI0 λi j=>.int (i-j)):=V2 λ_ _ _ _ _ _ _ q=>sub_int q
theorem Yw:OpR X (binaryOp .Mult) (rI Mj λi j=>.int (i*j)):=opI λ_ _ _ _ _ _ _ hc q=>mul_int q hc.ok
theorem Ac:OpR X (binaryOp .FloorDiv) (rI Yu λi j=>.int (i/j)):=opI λi j _ _ _ _ _ hc q=>by
 have h1:(0:Int)<j:=hc.1;have h2:j<1073741824:=hc.2;exact floordiv_int (by omega) (by rw[ZcI i (by omega)];exact q) (.inl (PyProof.noPylong_small (by omega)))
theorem fH:OpR X (binaryOp .Mod) (rI (λ_ j=>0<j) λi j=>.int (i%j)):=opI λi j _ _ _ _ _ hc q=>by
 have h1:(0:Int)<j:=hc;exact mod_int' (by omega) (by rw[Int.fmod_eq_emod_of_nonneg i (by omega)];exact q)
theorem Yx:OpR X (binaryOp .Pow) (rI R6 λi j=>.int (i^j.toNat)):=opI λ_ _ _ _ _ _ _ hc q=>pow_int_small hc.1 hc.2.1 hc.2.2 q
theorem Bc:OpR X (binaryOp .LShift) (rI R6 λi j=>.int (i*2^j.toNat)):=opI λ_ _ _ _ _ _ _ hc q=>lshift_int_small hc.1 hc.2.1 hc.2.2 q
theorem R7:OpR X (binaryOp .RShift) (rI (λ_ j=>0<=j) λi j=>.int (i/2^j.toNat)):=opI λi j _ _ _ _ _ hc q=>
 rshift_int hc (by rw[ZcI i (Ml _)];exact q)
theorem qY:OpR X (binaryOp .BitAnd) (rI0 λi j=>.int (Builtin.bitAnd i j)):=V2 λ_ _ _ _ _ _ _ q=>and_int q
theorem ZW:OpR X (binaryOp .BitOr) (rI0 λi j=>.int (Builtin.bitOr i j)):=V2 λ_ _ _ _ _ _ _ q=>or_int q
theorem unI{f:Value->Sem Value}{g:Int->Int}
  (rule:∀ (i:Int) (t:Tok) (s:Shared) (Q:Value->Shared->Prop) (E:Value->Shared->Prop),Q (.int (g i) s.toks) { s with toks:=s.toks+1 }->wpAny (model X.prog X.w) X.A (f (.int i t)) Q E s) :
  UnR X f (rU λi=>.int (g i)):=by
 intro pins s O H x v Q I rx h;obtain⟨i,rfl,q⟩:=h;obtain⟨t,rfl⟩:=rx;exact rule i t s _ _ ⟨.int (g i),H,I.tok _,⟨_,rfl⟩,q⟩
theorem R8:UnR X (unaryOp .USub) (rU λi=>.int (-i)):=unI λ_ _ _ _ _ q=>neg_int q
theorem R9:UnR X (unaryOp .Invert) (rU λi=>.int (Builtin.bitNot i)):=unI λ_ _ _ _ _ q=>invert_int q
end
section
variable{X:Cx}{a b c:Expr}{ta tb tc:TE}{pos:Pos}
theorem GP{pins:List (Addr×Obj)}{O:St}{H:Hp}{s:Shared}{Q:VK}{k k':Bool}(I:Inv X pins O H s)(q:Q (.bl k) H)(e:k=k'):EP X pins O Q (.bool k') s:=by
 subst e;exact⟨.bl k,H,I,rfl,q⟩
theorem ZX:OpR X (compareOp .Lt) (rI0 λi j=>.bl (decide (i<j))):=V3 λ_ _ _ _ _ _ _ q=>lt_int q
theorem ZZ:OpR X (compareOp .LtE) (rI0 λi j=>.bl (decide (i<=j))):=V3 λ_ _ _ _ _ _ _ q=>le_int q
theorem Jl:OpR X (compareOp .Gt) (rI0 λi j=>.bl (decide (j<i))):=V3 λ_ _ _ _ _ _ _ q=>gt_int q
theorem Sg:OpR X (compareOp .GtE) (rI0 λi j=>.bl (decide (j<=i))):=V3 λ_ _ _ _ _ _ _ q=>ge_int q
theorem QL:OpR X (compareOp .Lt) (λx y H Q=>∃ i j,x=.str i/\y=.str j/\Q (.bl (decide (i.cps.toList<j.cps.toList))) H):=by
 intro pins s O H x y v u Q I rx ry h;obtain⟨i,j,rfl,rfl,q⟩:=h;obtain⟨t,rfl⟩:=rx;obtain⟨t',rfl⟩:=ry;exact lt_str (GP I q rfl)
theorem GQ:OpR X (compareOp .IsNot) (λx y H Q=>y=.non/\Q (.bl (!decide (x=.non))) H):=by
 intro pins s O H x y v u Q I rx ry h;obtain⟨rfl,q⟩:=h;cases ry;refine isnot_none_gen (GP I q ?_);cases x<;>first
  |(cases rx;rfl)
  |(obtain⟨t,rfl⟩:=rx;rfl)
theorem GR:OpR X (compareOp .NotIn) (λx y H Q=>∃ i j,x=.str i/\y=.str j/\Q (.bl (!(!(Builtin.Str.occurrences j i 0 j.length 1).isEmpty))) H):=by
 intro pins s O H x y v u Q I rx ry h;obtain⟨i,j,rfl,rfl,q⟩:=h;obtain⟨t,rfl⟩:=rx;obtain⟨t',rfl⟩:=ry;exact notIn_str (GP I q rfl)
theorem OpR.or{f:Value->Value->Sem Value}{r r':R2}(h:OpR X f r)(h':OpR X f r'):OpR X f (λx y H Q=>r x y H Q\/r' x y H Q):=by
 intro pins s O H x y v u Q I rx ry q;rcases q with q|q
 ·exact h pins s O H x y v u Q I rx ry q
 ·exact h' pins s O H x y v u Q I rx ry q
theorem bQ(b:Expr){op:CmpOp}(h:op≠.In:=by decide)(h2:op≠.NotIn:=by decide):behindInMarks op b=false:=by
 have e1:(op==CmpOp.In)=false:=by cases op<;>first|rfl|exact absurd rfl h
 have e2:(op==CmpOp.NotIn)=false:=by cases op<;>first|rfl|exact absurd rfl h2
 cases b<;>simp[behindInMarks,e1,e2]
theorem jB{op:CmpOp}{r:R2}(ho:OpR X (compareOp op) r)(ha:PE X a ta)(hb:PE X b tb)(hm:behindInMarks op b=false):PE X (.Compare a [op] [b] pos) (tOp r ta tb):=by
 intro pins s O H Q I h;exact wpAny_Compare1 (Yt ha hb I h λv u s2 x y H2 I2 rx ry q=>ho pins s2 O H2 x y v u Q I2 rx ry q) hm
def Xr(t:TE):TT:=λO H Q=>t O H λx H'=>∃ k,x=.bl k/\Q k H'
theorem bB{op:CmpOp}{r:R2}(ho:OpR X (compareOp op) r)(ha:PE X a ta)(hb:PE X b tb)(hm:behindInMarks op b=false):PT X (.Compare a [op] [b] pos) (Xr (tOp r ta tb)):=by
 intro pins s O H Q I h;refine wpAny_isTrue_Compare1 (thn (ha pins s O H _ I h) λv s1 ⟨x,H1,I1,r1,q1⟩=>thn (hb pins s1 O H1 _ I1 q1) λu s2 ⟨y,H2,I2,r2,q2⟩=>
  thn (ho pins s2 O H2 x y v u _ I2 r1 r2 q2) λc s3 ⟨z,H3,I3,r3,k,e,q3⟩=>?_) hm
 subst e;cases r3;exact wpAny_truthy_bool ⟨H3,I3,q3⟩
def Sh(r r':R2)(ta tb tc:TE):TE:=λO H Q=>ta O H λx H1=>tb O H1 λy H2=>r x y H2 λz H3=>∃ k,z=.bl k /\
 (if k=true then tc O H3 λw' H4=>r' y w' H4 Q else Q (.bl false) H3)
theorem Sq{op op':CmpOp}{r r':R2}(ho:OpR X (compareOp op) r)(ho':OpR X (compareOp op') r')(ha:PE X a ta)(hb:PE X b tb)(hc:PE X c tc)
  (hm:lastMarks [op,op'] [b,c]=false:=by with_unfolding_all rfl):PE X (.Compare a [op,op'] [b,c] pos) (Sh r r' ta tb tc):=by
 intro pins s O H Q I h;refine Compare_chain (thn (ha pins s O H _ I h) λv s1 ⟨x,H1,I1,r1,q1⟩=>chain_link (thn (hb pins s1 O H1 _ I1 q1) λu s2 ⟨y,H2,I2,r2,q2⟩=>
  thn (ho pins s2 O H2 x y v u _ I2 r1 r2 q2) λd s3 ⟨z,H3,I3,r3,k,e,q3⟩=>?_)) hm
 subst e;cases r3;refine wpAny_truthy_bool ?_;cases k with
 |false=>exact ite_ff ⟨.bl false,H3,I3,rfl,q3⟩
 |true=>exact ite_tt (chain_last (thn (hc pins s3 O H3 _ I3 q3) λw' s4 ⟨z',H4,I4,r4,q4⟩=>ho' pins s4 O H4 y z' u w' Q I4 r2 r4 q4))
theorem GX:(sizeLine:Nat)<2^63:=by rw[sizeLine_eq];decide
theorem Mm:OpR X (binaryOp .Add) (λx y H Q=>∃ i j,x=.str i/\y=.str j/\i.length+j.length<=sizeLine/\Q (.str (i++j)) H):=by
 intro pins s O H x y v u Q I rx ry h;obtain⟨i,j,rfl,rfl,hz,q⟩:=h;obtain⟨t,rfl⟩:=rx;obtain⟨t',rfl⟩:=ry;exact add_str (λt' tk=>⟨.str (i++j),H,I.tok _,⟨_,rfl⟩,q⟩) hz
theorem vals1{x:V}{us:List Value}(r:Vals [x] us):∃ u,us=[u]/\RelV x u:=by
 cases r with
 |cons r1 r2=>cases r2;exact⟨_,rfl,r1⟩
def Z0(K:Frag)(x:V)(H:Hp)(n:Nat):Prop:=
 match x with
 |.str y=>y.length<=sizeLine/\n=y.length
 |.byt y=>y.size<=sizeLine/\n=y.size
 |.ref p=>(∃ xs,SqL K H p xs/\n=xs.length)\/∃ xs,SqT K H p xs/\n=xs.length
 |_=>False
theorem dO:mW X (.builtin "len") (λxs H Q=>∃ x n,xs=[x]/\Z0 X.K x H n/\Q (.int n) H):=by
 intro pins s O H xs us Q I r h;obtain⟨x,n,rfl,e,q⟩:=h;obtain⟨u,rfl,rx⟩:=vals1 r;have hl:=GX;have hs:sizeLine=16777216:=sizeLine_eq;cases x with
 |str y=>
  obtain⟨t,rfl⟩:=rx;obtain⟨hy,e'⟩:y.length<=sizeLine/\n=y.length:=e;subst e';exact len_str (by lia) ⟨.int _,H,I.tok _,⟨_,rfl⟩,q⟩
 |byt y=>
  obtain⟨t,rfl⟩:=rx;obtain⟨hy,e'⟩:y.size<=sizeLine/\n=y.size:=e;subst e';exact PySem.W.len_bytes (by lia) ⟨.int _,H,I.tok _,⟨_,rfl⟩,q⟩
 |ref p=>
  cases rx;have e':(∃ xs,SqL X.K H p xs/\n=xs.length)\/∃ xs,SqT X.K H p xs/\n=xs.length:=e;rcases e' with⟨xs,hx,e'⟩|⟨xs,hx,e'⟩
  ·subst e';obtain⟨its,r',pl,hz⟩:=I.list hx;have hlen:=r'.length;exact Calls.call_len_list pl.isList (by simp only[List.size_toArray];lia) ⟨.int xs.length,H,I.tok _,⟨_,by simp only[List.size_toArray];rw[hlen]⟩,q⟩
  ·subst e';obtain⟨its,r',pl,hz⟩:=I.tuple hx;have hlen:=r'.length;exact len_tuple pl (by simp only[List.size_toArray];lia) ⟨.int xs.length,H,I.tok _,⟨_,by simp only[List.size_toArray];rw[hlen]⟩,q⟩
 |_=>exact(show False from e).elim
end
theorem zR.some_of{v:V}{o:Option Value}(r:zR (some v) o):∃ u,o=some u/\RelV v u:=by
 cases o with
 |none=>exact(show False from r).elim
 |some u=>exact⟨u,rfl,r⟩
structure gr(k:Nat)(A:Around):Prop where
 hd:A.handled=none
 dp:A.depth+3*k+5<recursionLimit
 un:A.units+16*k+200<cLine
theorem gr.mono{j k:Nat}{A:Around}(r:gr k A)(h:j<=k):gr j A:=⟨r.hd,by have:=r.dp;lia,by have:=r.un;lia⟩
theorem gr.deeper{k:Nat}{A:Around}(r:gr (k+1) A)(env:Env):gr k (A.deeper env):=
 ⟨r.hd,by have:=r.dp;show A.depth+1+3*k+5<_;lia,by have:=r.un;show A.units+3+16*k+200<_;lia⟩
theorem gr.depth{k:Nat}{A:Around}(r:gr k A):A.depth<recursionLimit:=by have:=r.dp;omega
theorem gr.units{k:Nat}{A:Around}(r:gr k A):A.units+64<cLine:=by have:=r.un;omega
def uX:TA:=λ_ H Q=>Q [] H
def jU(ta:TE)(tr:TA):TA:=λO H Q=>ta O H λx H1=>tr O H1 λxs H2=>Q (x::xs) H2
section
variable{X:Cx}{e:Expr}{es:List Expr}{te:TE}{t:TA}{pos:Pos}
theorem au:PA X [] uX:=λ_ _ _ _ H Q I h=>Zcv ⟨[],H,I,.nil,h⟩
theorem aj(ha:PE X e te)(hr:PA X es t)(hs:starEach (e::es) X.env=(false,eval e X.env)::starEach es X.env:=by rfl):PA X (e::es) (jU te t):=by
 intro pos pins s O H Q I h;rw[hs];show wpAny _ _ (spliced ((false,eval e X.env)::backTo pos (starEach es X.env))) _ _ s
 refine ZbK (thn (ha pins s O H _ I h) ?_);rintro u s1 ⟨x,H1,I1,r1,q1⟩;exact thn (hr pos pins s1 O H1 _ I1 q1) λus s2 ⟨xs,H2,I2,r2,q2⟩=>⟨x::xs,H2,I2,.cons r1 r2,q2⟩
def Yy(t:TA):TE:=λO H Q=>t O H λxs H1=>xs.length<=sizeLine/\∀ p,H1 p=none->Q (.ref p) (upd H1 p (.tup xs))
def Yz(t:TA):TE:=λO H Q=>t O H λxs H1=>xs.length<=sizeLine/\∀ p,H1 p=none->Q (.ref p) (upd H1 p (.lst xs))
theorem dG{x1}(h:PA X es t):PE X (.Tuple es x1 pos) (Yy t):=by
 intro pins s O H Q I hq;refine wpAny_Tuple_spliced (thn (h pos pins s O H _ I hq) λus s1 ⟨xs,H1,I1,r,z,q⟩=>⟨by rw[<-r.length];exact z,?_⟩)
 have hf:H1 s1.heap.objs.size=none:=I1.hok.fresh (Zal _);refine⟨.ref s1.heap.objs.size,upd H1 s1.heap.objs.size (.tup xs),I1.laid (t':=s1.toks) (λb u e=>Zai _ e) (Zal _) ?_,rfl,q _ hf⟩;exact⟨z,us,r,gA.mk (Zar _ rfl)⟩
theorem jV(h:PA X es t):PE X (.List es pos) (Yz t):=by
 intro pins s O H Q I hq;refine wpAny_List_spliced (thn (h pos pins s O H _ I hq) λus s1 ⟨xs,H1,I1,r,z,q⟩=>⟨by rw[<-r.length];exact z,?_⟩)
 have hf:H1 s1.heap.objs.size=none:=I1.hok.fresh (Zal _);refine⟨.ref s1.heap.objs.size,upd H1 s1.heap.objs.size (.lst xs),I1.laid (t':=s1.toks) (λb u e=>Zai _ e) (Zal _) ?_,rfl,q _ hf⟩;exact⟨z,us,0,r,Zar _ rfl⟩
end
noncomputable abbrev Sp:=List V->Hp->VK->XK->Prop
noncomputable abbrev CXT:=List Env->Hp->Shared->XK->Value->Shared->Prop
structure V4(P:Program)(w:World)(K:Frag)(mg:Str->Option Value)(base:Heap)(A:Around)(outer:List Env)(s:Shared)(H:Hp):Prop where
 frames:A.frames=some outer
 mod:Mod K mg base
 bs:∀ b o,base.get? b=some o->s.heap.get? b=some o/\H b=none
 bsz:base.objs.size<=s.heap.objs.size
 zT:s.heap.FunFrames base outer
 frf:∀ b∈frs outer,H b=none
 hok:HOk P w H s.heap
 bare:AllBare s.gens
def CE(outer:List Env)(P:Program)(w:World)(H:Hp)(s:Shared)(Q:VK)(u:Value)(s':Shared):Prop:=
 ∃ v H',s'.os=s.os/\AllBare s'.gens/\Un (frs outer) [] H H' s.heap s'.heap/\HOk P w H' s'.heap/\RelV v u/\Q v H'
def CR(CX:CXT)(outer:List Env)(P:Program)(w:World)(H:Hp)(s:Shared)(Q:VK)(E:XK)(r:Result)(s':Shared):Prop:=
 match r with
 |.ok (.ret u)=>CE outer P w H s Q u s'
 |.ok _=>False
 |.error e=>CX outer H s E e s'
structure Ek(P:Program)(w:World)(K:Frag)(mg:Str->Option Value)(base:Heap)(CX:CXT)(k:Nat)(f:Addr)(fd:FuncData)(ps:List Str)(sp:Sp):Prop where
 len:∀ vs H Q E,sp vs H Q E->vs.length=ps.length
 run:∀ (A:Around) (outer:List Env) (s:Shared) (H:Hp) (args:Args) (us:List Value) (vs:List V) (Q:VK) (E:XK),gr k A->V4 P w K mg base A outer s H->BindsTo s fd args (ps.zip us)->Vals vs us->sp vs H Q E ->
  codeAny (model P w) A (.call (.ref f) args) (CR CX outer P w H s Q E) s
section
variable{X:Cx}{pins:List (Addr×Obj)}{O:St}{H:Hp}{s s':Shared}
theorem Inv.env0(I:Inv X pins O H s):V4 X.prog X.w X.K X.mg X.base X.A X.stack s H:=
 ⟨I.ok.frames,I.ok.mod,I.bs,ZaI I.ok.bsz I.sz,I.stack,I.Oc,I.hok,I.bare⟩
theorem Inv.after{Q:VK}{u:Value}(I:Inv X pins O H s)(h:CE X.stack X.prog X.w H s Q u s'):EP X pins O Q u s':=by
 obtain⟨v,H',os,bare,un,hok,r,q⟩:=h;obtain⟨hh,g,d,t,os'⟩:=s';obtain rfl:os'=s.os:=os;exact⟨v,H',I.call (h':=hh) (g':=g) (d':=d) (t':=t) (ch:=[]) un hok bare (λb z=>absurd z (by simp)),r,q⟩
end
def wj(sp:Sp)(dvs:List V)(E:XK)(t:TA):TE:=λO H Q=>t O H λvs H1=>sp (vs++dvs) H1 Q E
def Binds(K:Frag)(fd:FuncData)(ps:List Str)(ds:List Value):Prop:=
 ∀ (s:Shared) (us:List Value),K.In s.heap->(us++ds).length=ps.length->BindsTo s fd ⟨us,[]⟩ (ps.zip (us++ds))
theorem Binds.all{K:Frag}{fd:FuncData}{ps:List Str}(h:∀ us:List Value,us.length=ps.length->bindArgs fd ⟨us,[]⟩=pure (ps.zip us)):Binds K fd ps []:=λs us _ hl=>by
 rw[Za1] at hl ⊢;exact .of_eq (h us hl)
def Mp(CX:CXT)(X:Cx)(E:XK):Prop:=∀ (pins:List (Addr×Obj)) (O:St) (H:Hp) (s:Shared) (e:Value) (s':Shared),Inv X pins O H s->CX X.stack H s E e s'->X.xe e s'
section
variable{X:Cx}{CX:CXT}{k:Nat}{f:Addr}{fd:FuncData}{ps:List Str}{sp:Sp}{dvs:List V}{ds:List Value}{E:XK}{x:Str}{p pos:Pos}{e:Expr}{es:List Expr}{t:TA}
theorem YB{pins:List (Addr×Obj)}{O:St}{H:Hp}{s:Shared}{Q:VK}{us:List Value}{vs:List V}(F:Ek X.prog X.w X.K X.mg X.base CX k f fd ps sp)(hr:gr k X.A)(hb:Binds X.K fd ps ds)(hd:Vals dvs ds)(hx:Mp CX X E)
  (I:Inv X pins O H s)(r:Vals vs us)(h:sp (vs++dvs) H Q E):wpAny (model X.prog X.w) X.A (call (.ref f) us) (EP X pins O Q) X.xe s:=by
 have r2:Vals (vs++dvs) (us++ds):=r.append hd;have hl:(us++ds).length=ps.length:=by rw[<-r2.length];exact F.len _ _ _ _ h
 refine wpAny_call (codeAny_mono (F.run X.A X.stack s H ⟨us,[]⟩ (us++ds) (vs++dvs) Q E hr I.env0 (hb s us I.kIn hl) r2 h) λr s' hq=>?_);cases r with
 |error e=>exact hx pins O H s e s' I hq
 |ok fl=>
  cases fl with
  |ret u=>exact I.after hq
  |next=>exact False.elim hq
  |brk=>exact False.elim hq
  |cont=>exact False.elim hq
theorem V5(F:Ek X.prog X.w X.K X.mg X.base CX k f fd ps sp)(hr:gr k X.A)(hg:Gl X x)(hm:X.mg x=some (.ref f))(hk:keepIn X.K (.ref f)=true)(hb:Binds X.K fd ps ds)(hd:Vals dvs ds)(hx:Mp CX X E)
  (ha:PA X (e::es) t)(hdb:(x==("__debug__":Str))=false:=by decide)(he:starEach (e::es) X.env=(false,eval e X.env)::starEach es X.env:=by rfl)(hpl:(backTo pos (starEach es X.env)).any (·.1)=false:=by rfl) :
  PE X (.Call (.Name x p) (e::es) [] pos) (wj sp dvs E t):=by
 intro pins s O H Q I h;refine wpAny_Call_Name_kw (Oe I hg hm ?_ hdb);refine PySem.W.callWith_K (h₀:=X.base) I.ok.mod.kin hk (thn (ha pos pins s O H _ I h) λus s1 ⟨vs,H1,I1,r,q⟩=>⟨I1.kIn,?_⟩) he hpl;exact YB F hr hb hd hx I1 r q
end
structure bu(N P:List Str)(sc:Scope):Prop where
 kind:sc.kind=.function
 co:sc.isCoroutine=false
 gen:sc.isGenerator=false
 nd:N.Nodup
 pre:N.take P.length=P
 par:∀ x∈P,sc.names.lookup x=some .local\/sc.names.lookup x=some .cell
 nofree:∀ y∈sc.names,y.2≠.free
theorem Fl{kindOf:Str->Option NameKind}{x:Str}:∀ {binds:List (Str×Value)}{m:Str->Option Value},(∀ v,(x,v) ∉ binds)->bindL kindOf binds m x=m x
 |[],_,_=>rfl
 |(n,v)::r,m,h=>by
  unfold bindL;rw[Fl λw hw=>h w (Zaq _ hw)];split
  ·have:x≠n:=by rintro rfl;exact h v Zaw
   simp[this]
  ·rfl
theorem Fo{kindOf:Str->Option NameKind}{x:Str}:∀ {binds:List (Str×Value)}{m:Str->Option Value},(∀ v,(x,v) ∉ binds)->bindC kindOf binds m x=m x
 |[],_,_=>rfl
 |(n,v)::r,m,h=>by
  unfold bindC;rw[Fo λw hw=>h w (Zaq _ hw)];split
  ·rfl
  ·have:x≠n:=by rintro rfl;exact h v Zaw
   simp[this]
theorem Fp{kindOf:Str->Option NameKind}{x:Str}{v:Value}:∀ {P:List Str}{vs:List Value}{i:Nat}{m:Str->Option Value},P.Nodup->P[i]?=some x->vs[i]?=some v->kindOf x=some .local ->
  bindL kindOf (P.zip vs) m x=some v
 |[],_,_,_,_,h,_,_=>by simp at h
 |_::_,[],_,_,_,_,h,_=>by simp at h
 |p::P,w::vs,0,m,nd,h1,h2,hk=>by
  simp at h1 h2;subst h1;subst h2;show bindL kindOf ((p,w)::P.zip vs) m p=_
  unfold bindL;rw[Fl λv hv=>(Zbp.mp nd).1 (Zc0 hv).1,Zan hk];simp
 |p::P,w::vs,i+1,m,nd,h1,h2,hk=>by
  show bindL kindOf ((p,w)::P.zip vs) m x=_
  unfold bindL;exact Fp (i:=i) (Zbp.mp nd).2 (by simpa using h1) (by simpa using h2) hk
theorem Fq{kindOf:Str->Option NameKind}{x:Str}{v:Value}:∀ {P:List Str}{vs:List Value}{i:Nat}{m:Str->Option Value},P.Nodup->P[i]?=some x->vs[i]?=some v->kindOf x≠some .local ->
  bindC kindOf (P.zip vs) m x=some v
 |[],_,_,_,_,h,_,_=>by simp at h
 |_::_,[],_,_,_,_,h,_=>by simp at h
 |p::P,w::vs,0,m,nd,h1,h2,hk=>by
  simp at h1 h2;subst h1;subst h2;show bindC kindOf ((p,w)::P.zip vs) m p=_
  unfold bindC;rw[Fo λv hv=>(Zbp.mp nd).1 (Zc0 hv).1,Zam hk];simp
 |p::P,w::vs,i+1,m,nd,h1,h2,hk=>by
  show bindC kindOf ((p,w)::P.zip vs) m x=_
  unfold bindC;exact Fq (i:=i) (Zbp.mp nd).2 (by simpa using h1) (by simpa using h2) hk
def start(N:List Str)(vs:List V):St:=vs.map some++List.replicate (N.length-vs.length) none
def Mq(CX:CXT)(P:Program)(w:World)(K:Frag)(mg:Str->Option Value)(base:Heap)(N:List Str)(qual:Str)(scope:Scope)(f:Addr)(cd:Value)(A:Around)(outer:List Env)(s:Shared)(H:Hp)(E:XK):Cx where
 prog:=P
 w:=w
 K:=K
 mg:=mg
 base:=base
 A:=A.deeper (envOfC qual scope s.heap.objs.size f cd)
 N:=N
 s₀:=s
 H₀:=H
 env:=envOfC qual scope s.heap.objs.size f cd
 outer:=outer
 stack:=envOfC qual scope s.heap.objs.size f cd::outer
 ex:=[]
 calm:=true
 fn:=λ_=>true
 pn:=[]
 xe:=λe s'=>wpAny (model P w) (A.deeper (envOfC qual scope s.heap.objs.size f cd)) (leaving (envOfC qual scope s.heap.objs.size f cd) e) (λ_ s''=>CX outer H s E e s'') (λe' s''=>CX outer H s E e' s'') s'
theorem Jm{sc:Scope}{n:Nat}{x:Str}(h:sc.names.lookup x=some .cell):∃ c,(cellsFrom n sc.names []).lookup x=some c:=by
 have q:=PySem.W.cellsFrom_some sc.names n [] (.inl h);exact Option.isSome_iff_exists.mp q
theorem QM{CX:CXT}{P:Program}{w:World}{K:Frag}{mg:Str->Option Value}{base:Heap}{N ps:List Str}{qual:Str}{scope:Scope}{f:Addr}{cd:Value}{A:Around}{outer:List Env}{s s1:Shared}{H:Hp}{E:XK}{us:List Value}{vs:List V}
  (S:bu N ps scope)(hd:A.handled=none)(e0:V4 P w K mg base A outer s H)(hl:vs.length=ps.length)(r:Vals vs us)
  (x:InCallC s s.heap.objs.size (bindL (envOfC qual scope s.heap.objs.size f cd).kindOf (ps.zip us) λ_=>none) (cellsFrom (s.heap.objs.size+1) scope.names []) (bindC (envOfC qual scope s.heap.objs.size f cd).kindOf (ps.zip us) λ_=>none) s1) :
  Inv (Mq CX P w K mg base N qual scope f cd A outer s H E) [] (start N vs) H s1:=by
 have hpl:ps.length<=N.length:=by have:=Za3 List.length S.pre;rw[Zck] at this;lia
 obtain⟨h1,tk,rfl,hk⟩:=x.done;have noA:∀ b:Addr,b ∉ (Mq CX P w K mg base N qual scope f cd A outer s H E).ex:=λb z=>absurd (show b∈([]:List Addr) from z) (by simp)
 refine⟨⟨e0.mod,S.kind,rfl,rfl,Zal _,λy z c h1 h2=>?_,λy hy=>?_,λy c _ h=>?_,λ_=>hd,Around.frames_deeper e0.frames,.inr ⟨rfl,rfl⟩,λb z=>absurd z (noA b),e0.bs,e0.bsz,λb _ _=>noA b,λb z=>absurd z (noA b),e0.zT,e0.frf⟩,
  rfl,e0.bare,Un.kept hk,⟨_,x.toInCall.ns,λi y v h1 h2 h3=>?_⟩,λy c h=>⟨_,x.cell y c h⟩,e0.hok.fresh (Zal _),λy c h=>?_,λp hp=>absurd (show p∈([]:List (Addr×Obj)) from hp) (by simp),e0.hok.kept hk,?_⟩
 ·exact name_of_addr x.apart (ZbV h1) (ZbV h2)
 ·have hy:scope.names.lookup y=some .cell\/scope.names.lookup y=some .free:=hy;rcases hy with hy|hy
  ·exact Jm hy
  ·exact absurd rfl (S.nofree _ (ZbV hy))
 ·exact ZaB (x.above y c (ZbV h))
 ·have hi:i<vs.length:=by
   unfold start at h2;by_cases hi:i<vs.length
   ·exact hi
   ·rw[Zas (by simpa using hi)] at h2
    rw[Zbq] at h2;split at h2<;>cases h2
  have ha:vs[i]?=some v:=by
   unfold start at h2;rw[Zak (by simpa using hi),Zad] at h2
   cases e:vs[i]? with
   |none=>rw[e] at h2;cases h2
   |some a=>rw[e] at h2;cases h2;rfl
  obtain⟨u,hu,rv⟩:=r.get ha;have hp:ps[i]?=some y:=by
   rw[<-S.pre,List.getElem?_take_of_lt (by lia)];exact h1
  have ndP:ps.Nodup:=by rw[<-S.pre];exact S.nd.sublist (List.take_sublist _ _)
  refine⟨u,rv,?_⟩;rcases S.par y (Zah hp) with k|k
  ·exact .inl ⟨k,Fp ndP hp hu k⟩
  ·obtain⟨c,e⟩:=Jm (n:=s.heap.objs.size+1) k;refine .inr ⟨.inl k,c,e,?_⟩;have q:=x.cell y c e;rw[Fq ndP hp hu (by show scope.names.lookup y≠_;rw[k];decide)] at q
   exact q
 ·exact e0.hok.fresh (ZaB (x.above y c (ZbV h)))
 ·unfold start;show _=N.length
  rw[ZaC,Zab,ZbL];lia
theorem Z1{CX:CXT}{P:Program}{w:World}{K:Frag}{mg:Str->Option Value}{base:Heap}{k:Nat}{f:Addr}{name qual:Str}{params:Arguments}{body:List Stmt}{scope:Scope}{dV kV doc pm cdv ct oc:Value}{an od:Option Addr}
  {osl:Array (Option Value)}{N ps:List Str}{sp:Sp}(lk:K.lookup f=some ⟨oc,od,.func (fnOf name qual params body scope dV kV doc pm an cdv ct),osl⟩)(hcd:codeIn K cdv qual=true)(S:bu N ps scope)
  (len:∀ vs H Q E,sp vs H Q E->vs.length=ps.length)
  (hbody:∀ (A:Around) (outer:List Env) (s:Shared) (H:Hp) (vs:List V) (Q:VK) (E:XK),gr k (A.deeper (envOfC qual scope s.heap.objs.size f cdv))->sp vs H Q E ->
   ∃ t,PSs (Mq CX P w K mg base N qual scope f cdv A outer s H E) body t/\t { nx:=λ_ H'=>Q .non H',rt:=Q } (start N vs) H) :
  Ek P w K mg base CX (k+1) f (fnOf name qual params body scope dV kV doc pm an cdv ct) ps sp:=by
 refine⟨len,λA outer s H args us vs Q E hr e0 hb r hsp=>?_⟩;have hl:=len _ _ _ _ hsp;have KX:K.In s.heap:=e0.mod.kin.keeps λb o e=>(e0.bs b o e).1;have lim:s.heap.NoLimit:=e0.mod.nolimit.keeps λb o e=>(e0.bs b o e).1;have hkind:∀ y∈ps.zip us,scope.names.lookup y.1=some .local\/(scope.names.lookup y.1=some .cell/\((cellsFrom (s.heap.objs.size+1) scope.names []).lookup y.1).isSome=true):=λ⟨n,v⟩ hy=>by
  rcases S.par n (Zc0 hy).1 with q|q
  ·exact .inl q
  ·exact .inr ⟨q,PySem.W.cellsFrom_some _ _ _ (.inl q)⟩
 refine codeAny_call_function hr.depth (KX _ _ lk) rfl S.co S.gen rfl (PySem.W.codeRec_of KX hcd) (hb _ _ _ _ ?_);refine wpAny_newFunctionEnv_cells S.kind hkind λenv he s1 x=>?_;subst he;refine⟨lim.keeps x.toInCall.keep,codeAny_func ?_⟩;obtain⟨t,ht,hq⟩:=hbody A outer s H vs Q E (hr.deeper _) hsp;have I:Inv (Mq CX P w K mg base N qual scope f cdv A outer s H E) [] (start N vs) H s1:=QM S hr.hd e0 hl r x;refine Zbn (ht [] s1 (start N vs) H _ I hq) (λfl s' hs=>?_) λe s' hs=>hs;have fin:∀ {O':St}{H':Hp}{v:V}{u:Value},Inv (Mq CX P w K mg base N qual scope f cdv A outer s H E) [] O' H' s'->RelV v u->Q v H'->CE outer P w H s Q u s':=
  λ{O' H' v u} J rv q=>⟨v,H',J.os,J.bare,J.base,J.hok,rv,q⟩
 cases fl with
 |ret u=>
  obtain⟨v,O',H',J,rv,q⟩:=hs;exact fin J rv q
 |next=>
  obtain⟨O',H',J,q⟩:=hs;exact fin (v:=V.non) (u:=Value.none) J rfl q
 |brk=>
  obtain⟨_,_,_,q⟩:=hs;exact False.elim q
 |cont=>
  obtain⟨_,_,_,q⟩:=hs;exact False.elim q
section
variable{X:Cx}{x:Str}{p pos:Pos}{e:Expr}{es:List Expr}{t:TA}{id T:String}{r:List V->Hp->VK->Prop}
def tCB(r:List V->Hp->VK->Prop)(t:TA):TE:=λO H Q=>t O H λvs H1=>r vs H1 Q
theorem bN(hc:mW X (.builtin id) r)(hg:Gl X x)(hm:X.mg x=none)(hv:bootBuiltins x=some (.builtin id))(ha:PA X (e::es) t)(hn:x≠"__name__":=by decide)(hdb:(x==("__debug__":Str))=false:=by decide)
  (he:starEach (e::es) X.env=(false,eval e X.env)::starEach es X.env:=by rfl)(hpl:(backTo pos (starEach es X.env)).any (·.1)=false:=by rfl):PE X (.Call (.Name x p) (e::es) [] pos) (tCB r t):=by
 intro pins s O H Q I h;refine wpAny_Call_Name_kw (uU I hg hm hv ?_ hn hdb);exact PyProof.Rows.callWith_builtin1 (thn (ha pos pins s O H _ I h) λus s1 ⟨vs,H1,I1,r1,q1⟩=>hc pins s1 O H1 vs us Q I1 r1 q1) he hpl
theorem gY(hc:mW X (.type T) r)(hg:Gl X x)(hm:X.mg x=none)(hv:bootBuiltins x=some (.type T))(ha:PA X (e::es) t)(hn:x≠"__name__":=by decide)(hdb:(x==("__debug__":Str))=false:=by decide)
  (he:starEach (e::es) X.env=(false,eval e X.env)::starEach es X.env:=by rfl)(hpl:(backTo pos (starEach es X.env)).any (·.1)=false:=by rfl):PE X (.Call (.Name x p) (e::es) [] pos) (tCB r t):=by
 intro pins s O H Q I h;refine wpAny_Call_Name_kw (uU I hg hm hv ?_ hn hdb);exact Zbo (thn (ha pos pins s O H _ I h) λus s1 ⟨vs,H1,I1,r1,q1⟩=>hc pins s1 O H1 vs us Q I1 r1 q1) he hpl
end
end L2
namespace HT
open PySem PyProof.Rows
section
variable{prog:Program}{w:World}{A:Around}{E:Value->Shared->Prop}{s:Shared}
theorem V6{t b:Addr}{vs ws:List Value}{Q:Value->Shared->Prop}(ht:IsTup s.heap t vs.toArray)(hb:IsTup s.heap b ws.toArray)(hv:vs≠[])
  (h1:ws=[]->Q (.ref t) s)(h2:ws≠[]->Q (.ref s.heap.objs.size) { s with heap:=s.heap.push { cls:=.type "tuple",data:=.seq (vs++ws).toArray } })
  (hsz:vs.length+ws.length<=sizeLine):wpAny (model prog w) A (binaryOp .Add (.ref t) (.ref b)) Q E s:=by
 obtain⟨⟨cls,dd,data,sl⟩,ho,hc,n,hd⟩:=id ht;obtain⟨⟨cls2,dd2,data2,sl2⟩,ho2,hc2,n2,hd2⟩:=id hb;simp only at hc hd hc2 hd2;subst hc hd hc2 hd2;have e:vs.toArray++ws.toArray=(vs++ws).toArray:=by simp
 by_cases hw:ws=[]
 ·exact concat_meets ⟨_,ho,rfl⟩ ⟨_,ho2,rfl⟩ noFill_tuple_add seq_tuple_add PySem.F.slot_tuple_add PySem.F.entry_tuple_add (PySem.F.args_tuple_add_2 _ _)
   (tuple_addW1 t b vs.toArray ws.toArray n n2 dd dd2 sl sl2 (by simpa using hv) (by simp[hw])) ⟨ho,ho2,h1 hw⟩
 ·refine concat_meets ⟨_,ho,rfl⟩ ⟨_,ho2,rfl⟩ noFill_tuple_add seq_tuple_add PySem.F.slot_tuple_add PySem.F.entry_tuple_add (PySem.F.args_tuple_add_2 _ _)
   (tuple_addW2 t b vs.toArray ws.toArray n n2 dd dd2 sl sl2 (by simpa using hv) (by simpa using hw) (by rw[List.size_toArray,List.size_toArray];exact hsz)) ⟨ho,ho2,?_⟩
  rw[e];exact h2 hw
def sIx(n d:Nat):Option Int->Nat
 |none=>d
 |some v=>if v<0 then(v+(n:Int)).toNat else min v.toNat n
theorem YC(n d:Nat)(hd:d<=n)(o:Option Int):sIx n d o<=n:=by
 cases o with
 |none=>exact hd
 |some v=>
  show(if v<0 then(v+(n:Int)).toNat else min v.toNat n)<=n
  by_cases hv:v<0
  ·rw[Zan hv];omega
  ·rw[Zam hv];exact Nat.min_le_right _ _
theorem Oh(v:Int)(n d:Nat):(if v<0 then max (v+(n:Int)) 0 else min v (n:Int))=((sIx n d (some v):Nat):Int):=by
 show(if v<0 then max (v+(n:Int)) 0 else min v (n:Int))=(((if v<0 then(v+(n:Int)).toNat else min v.toNat n):Nat):Int)
 by_cases hv:v<0
 ·simp only[Zan hv];omega
 ·simp only[Zam hv];omega
theorem Mr(lo hi:Option Int)(n:Nat):Builtin.Slice.sliceAdjust lo hi 1 (n:Int)=(((sIx n 0 lo:Nat):Int),((sIx n n hi:Nat):Int)):=by
 have h1:¬((1:Int)<0):=by omega
 unfold Builtin.Slice.sliceAdjust;simp only[h1,Zba];refine Zc7 ?_ ?_
 ·cases lo with
  |none=>rfl
  |some v=>exact Oh v n 0
 ·cases hi with
  |none=>rfl
  |some v=>exact Oh v n n
theorem Ms(i j:Nat):Builtin.Slice.slicePlaces (i:Int) (j:Int) 1=j-i:=by
 unfold Builtin.Slice.slicePlaces;have h1:(1:Int)>0:=by omega
 simp only[h1,Zbw,Int.ediv_one];split<;>omega
theorem Be{v:Value}{o:Option Int}{Q:Option Int->Shared->Prop}(p:IsPart v o)(h:Q o s):wpAny (model prog w) A (Builtin.Slice.slicePartIndex v) Q E s:=by
 cases p with
 |none=>exact slicePart_none h
 |int i t=>exact slicePart_int h
theorem yu{sl:Addr}{vl vu:Value}{lo hi:Option Int}{n:Nat}{Q:Int×Int×Nat->Shared->Prop}(hs:s.heap.IsSliceOf sl vl vu .none)(pl:IsPart vl lo)(pu:IsPart vu hi)
  (h:Q (((sIx n 0 lo:Nat):Int),1,sIx n n hi-sIx n 0 lo) s):wpAny (model prog w) A (Builtin.Slice.sliceApplied (.ref sl) (pure (n:Int))) Q E s:=by
 obtain⟨os,hos,hcs,hds⟩:=id hs;unfold Builtin.Slice.sliceApplied Builtin.Slice.sliceFields;refine Zaa (Zaa (wpAny_field hos hds (x:=vl) rfl (Zaa (wpAny_field hos hds (x:=vu) rfl (Zaa (wpAny_field hos hds (x:=.none) rfl (Zaj ?_)))))));refine Zaa (slicePart_none ?_);show wpAny _ _ (if((1:Int)==0)=true then _ else _) _ _ s
 rw[Zam (by decide)]
 refine Zaa (Be pl (Zaa (Be pu (Zaa (Zaj ?_)))));show wpAny _ _ (match Builtin.Slice.sliceAdjust lo hi 1 (n:Int) with|(lo,hi)=>pure (lo,(1:Int),Builtin.Slice.slicePlaces lo hi 1)) _ _ s
 rw[Mr lo hi n];show wpAny _ _ (pure (((sIx n 0 lo:Nat):Int),(1:Int),Builtin.Slice.slicePlaces ((sIx n 0 lo:Nat):Int) ((sIx n n hi:Nat):Int) 1)) _ _ s
 rw[Ms];exact Zaj h
theorem Ss(xs:Array Value)(i k:Nat):((List.range k).filterMap λ(m:Nat)=>xs[((i:Int)+(m:Int)*1).toNat]?).toArray=((xs.toList.drop i).take k).toArray:=by
 have e:(λ(m:Nat)=>xs[((i:Int)+(m:Int)*1).toNat]?)=λm=>xs[i+m]?:=by
  funext m
  have:((i:Int)+(m:Int)*1).toNat=i+m:=by omega
  rw[this]
 rw[e];have:=pick_run xs i k;rw[List.filterMap_map] at this;have e2:((λx=>xs[x]?) ∘ λx=>i+x)=λm=>xs[i+m]?:=rfl;rw[e2] at this;rw[this]
theorem wk{t sl:Addr}{items:Array Value}{vl vu:Value}{lo hi:Option Int}{Q:Value->Shared->Prop}(ht:IsTup s.heap t items)(hs:s.heap.IsSliceOf sl vl vu .none)(pl:IsPart vl lo)(pu:IsPart vu hi)
  (hw:¬(sIx items.size 0 lo=0/\sIx items.size items.size hi=items.size))
  (h:Q (.ref s.heap.objs.size) { s with heap:=s.heap.push { cls:=.type "tuple",data:=.seq ((items.toList.drop (sIx items.size 0 lo)).take (sIx items.size items.size hi-sIx items.size 0 lo)).toArray } })
  (hsz:items.size<=sizeLine):wpAny (model prog w) A (getItem (.ref t) (.ref sl)) Q E s:=by
 have htake:sizeOk (.seq ((items.toList.drop (sIx items.size 0 lo)).take (sIx items.size items.size hi-sIx items.size 0 lo)).toArray):=by
  show((items.toList.drop (sIx items.size 0 lo)).take (sIx items.size items.size hi-sIx items.size 0 lo)).toArray.size<=sizeLine
  rw[List.size_toArray,Zck,List.length_drop,ZaZ];omega
 have hj:sIx items.size items.size hi<=items.size:=YC _ _ (Zal _) hi;obtain⟨os,hos,hcs,hds⟩:=id hs;have hTs:s.TypeIs (.ref sl) "slice":=⟨os,hos,hcs⟩;unfold getItem
 try with_reducible refine wpAny_holding ?_
 first|refine Zaa (Zaj ?_)|skip
 refine Zaa (wpAny_sequenceKey ht.typeIs (by decide) ?_)
 refine Zaa (wpAny_callSpecial?_slot (name:=Str.ofString "__getitem__") ht.typeIs ZbS
  (wpAny_call_entry ZbS ht.typeIs entry_tuple_getitem ?_ (args_tuple_getitem _ _)))
 show wpAny _ _ (Builtin.Tuple.tupleItemsOf (.ref t)>>=_) _ _ s
 refine Zaa (tupleItemsOf_ ht ?_);refine Zaa (wpAny_typeOf hTs ?_);rw[Zan (by decide)]
 refine Zaa (yu hs pl pu ?_);have hno:¬((((sIx items.size 0 lo:Nat):Int)==0&&(1:Int)==1&&(sIx items.size items.size hi-sIx items.size 0 lo)==items.size)=true):=by
  intro q;rw[ZbY,ZbY] at q;have q1:((sIx items.size 0 lo:Nat):Int)=0:=eq_of_beq q.1.1;have q2:sIx items.size items.size hi-sIx items.size 0 lo=items.size:=eq_of_beq q.2;exact hw ⟨by omega,by omega⟩
 show wpAny _ _ (if(((sIx items.size 0 lo:Nat):Int)==0&&(1:Int)==1&&(sIx items.size items.size hi-sIx items.size 0 lo)==items.size)=true then _ else _) _ _ s
 rw[Zam hno,Ss]
 first
  |exact Zaa (m:=Builtin.Tuple.tupleExact _) (Za5 (Zaj ⟨_,rfl,Zaj h⟩) htake)
  |exact Zaa (m:=Builtin.Tuple.tupleExact _) (Za5 (Zaa (Zaj (Zaj ⟨_,rfl,Zaj h⟩))) htake)
  |exact Zaa (Zaa (m:=Builtin.Tuple.tupleExact _) (Za5 (Zaj (Zaj ⟨_,rfl,Zaj h⟩)) htake))
  |exact Zaa (Zaa (m:=Builtin.Tuple.tupleExact _) (Za5 (Zaj ⟨_,rfl,Zaj h⟩) htake))
end
end HT
namespace L2
open PySem PySem.Spec PyProof.Rows
noncomputable abbrev TO:=St->Hp->(Option Int->Hp->Prop)->Prop
def PO(X:Cx)(e:Option Expr)(t:TO):Prop:=
 ∀ (pins:List (Addr×Obj)) (s:Shared) (O:St) (H:Hp) (Q:Option Int->Hp->Prop),Inv X pins O H s->t O H Q ->
  wpAny (model X.prog X.w) X.A (evalPart e X.env) (λu s'=>∃ o H',Inv X pins O H' s'/\IsPart u o/\Q o H') X.xe s
def Oi:TO:=λ_ H Q=>Q none H
def Xu(t:TE):TO:=λO H Q=>t O H λx H1=>∃ i,x=.int i/\Q (some i) H1
section
variable{X:Cx}{e:Expr}{te:TE}{lo hi:Option Expr}{tl th:TO}{pos p2:Pos}
theorem Oj:PO X none Oi:=by
 intro pins s O H Q I h;rw[evalPart_none];exact Zaj ⟨none,H,I,.none,h⟩
theorem Ol(h:PE X e te):PO X (some e) (Xu te):=by
 intro pins s O H Q I hw;rw[evalPart_some];refine thn (h pins s O H _ I hw) ?_;rintro u s1 ⟨x,H1,I1,r1,q1⟩;obtain⟨i,rfl,q⟩:=q1;obtain⟨t,rfl⟩:=r1;exact⟨some i,H1,I1,.int i t,q⟩
def SlR(X:Cx)(r:V->Option Int->Option Int->Hp->VK->Prop):Prop:=
 ∀ (pins:List (Addr×Obj)) (s:Shared) (O:St) (H:Hp) (x:V) (v vl vu:Value) (lo hi:Option Int) (sl:Addr) (Q:VK),Inv X pins O H s->RelV x v->s.heap.IsSliceOf sl vl vu .none->IsPart vl lo->IsPart vu hi->r x lo hi H Q ->
  ∃ T id,typeLookup (.type T) "__getitem__"=pure (some (.builtin id))/\s.TypeIs v T/\wpAny (model X.prog X.w) X.A (getItem v (.ref sl)) (EP X pins O Q) X.xe s
def tSl(r:V->Option Int->Option Int->Hp->VK->Prop)(te:TE)(tl th:TO):TE:=λO H Q=>te O H λx H1=>tl O H1 λl H2=>th O H2 λu H3=>r x l u H3 Q
theorem Jo{r:V->Option Int->Option Int->Hp->VK->Prop}(hr:SlR X r)(he:PE X e te)(hl:PO X lo tl)(hu:PO X hi th):PE X (.Subscript e (.Slice lo hi none p2) pos) (tSl r te tl th):=by
 intro pins s O H Q I h;refine Subscript_ (thn (he pins s O H _ I h) ?_);rintro v s1 ⟨x,H1,I1,r1,q1⟩;refine wpAny_Slice (thn (hl pins s1 O H1 _ I1 q1) λvl s2 ⟨l,H2,I2,pl,q2⟩=>thn (hu pins s2 O H2 _ I2 q2) ?_);rintro vu s3 ⟨u,H3,I3,pu,q3⟩;rw[evalPart_none];refine Zaj ?_;have I4:Inv X pins O H3 { s3 with heap:=s3.heap.push { cls:=.type "slice",data:=.fields #[vl,vu,.none] } }:=I3.kept (t':=s3.toks) λb ob q=>Zai _ q;obtain⟨T,id,hT,ht,hg⟩:=hr pins { s3 with heap:=s3.heap.push { cls:=.type "slice",data:=.fields #[vl,vu,.none] } } O H3 x v vl vu l u s3.heap.objs.size Q I4 r1 (Heap.IsSliceOf.new ..) pl pu q3;show wpAny (model X.prog X.w) X.A (subscriptTail e (.Slice lo hi none p2) v (.ref s3.heap.objs.size)) (EP X pins O Q) X.xe { s3 with heap:=s3.heap.push { cls:=.type "slice",data:=.fields #[vl,vu,.none] } }
 exact tail_any (ops:=[.ref s3.heap.objs.size,v]) ht hT hg (by with_unfolding_all rfl)
def GZ(xs:List V)(lo hi:Option Int):List V:=(xs.drop (HT.sIx xs.length 0 lo)).take (HT.sIx xs.length xs.length hi-HT.sIx xs.length 0 lo)
theorem zm(xs:List V)(lo hi:Option Int):(GZ xs lo hi).length<=xs.length:=by
 unfold GZ;rw[Zck,List.length_drop];omega
def Z2(K:Frag):V->Option Int->Option Int->Hp->VK->Prop:=λx lo hi H Q=>∃ a xs,x=.ref a/\SqT K H a xs /\
 ¬(HT.sIx xs.length 0 lo=0/\HT.sIx xs.length xs.length hi=xs.length)/\∀ p,H p=none->Q (.ref p) (upd H p (.tup (GZ xs lo hi)))
theorem YD:SlR X (Z2 X.K):=by
 intro pins s O H x v vl vu lo hi sl Q I rx hs pl pu h;obtain⟨a,xs,rfl,hx,hw,q⟩:=h;cases rx;obtain⟨its,r,ht,hz⟩:=I.tuple hx;have hlen:its.toArray.size=xs.length:=by rw[List.size_toArray];exact r.length.symm
 refine⟨"tuple",_,ZbS.lookup,ht.typeIs,?_⟩;refine HT.wk ht hs pl pu (by rw[hlen];exact hw) ?_ (by rw[hlen];exact hz)
 rw[hlen];refine⟨.ref s.heap.objs.size,_,I.laid (t':=s.toks) (o:=.tup (GZ xs lo hi)) (λb ob q=>Zai _ q) (Zal _) ?_,rfl,q _ (I.hok.fresh (Zal _))⟩;exact⟨ZaI (zm xs lo hi) hz,_,(r.drop (HT.sIx xs.length 0 lo)).take (HT.sIx xs.length xs.length hi-HT.sIx xs.length 0 lo),gA.new _ _⟩
def Xv(K:Frag):R2:=λx y H Q=>∃ a b xs ys,x=.ref a/\y=.ref b/\SqT K H a xs/\SqT K H b ys/\xs≠[]/\xs.length+ys.length<=sizeLine /\
 (ys=[]->Q (.ref a) H)/\(ys≠[]->∀ p,H p=none->Q (.ref p) (upd H p (.tup (xs++ys))))
theorem Vals.Ha{xs:List V}{us:List Value}(r:Vals xs us):us=[]↔xs=[]:=by
 cases r with
 |nil=>simp
 |cons _ _=>simp
theorem V7:OpR X (binaryOp .Add) (Xv X.K):=by
 intro pins s O H x y v u Q I rx ry h;obtain⟨a,b,xs,ys,rfl,rfl,ha,hb,hx,hz,q1,q2⟩:=h;cases rx;cases ry;obtain⟨its,r1,p1,_⟩:=I.tuple ha;obtain⟨its2,r2,p2,_⟩:=I.tuple hb;refine HT.V6 p1 p2 (λz=>hx (r1.Ha.mp z)) (λz=>⟨.ref a,H,I,rfl,q1 (r2.Ha.mp z)⟩) (λz=>?_) (by rw[<-r1.length,<-r2.length];exact hz)
 refine⟨.ref s.heap.objs.size,_,I.laid (t':=s.toks) (o:=.tup (xs++ys)) (λb ob q=>Zai _ q) (Zal _) ?_,rfl,q2 (λw=>z (r2.Ha.mpr w)) _ (I.hok.fresh (Zal _))⟩;exact⟨by rw[ZaC];exact hz,_,r1.append r2,gA.new _ _⟩
end
def ixN(n:Nat)(i:Int):Option Nat:=if 0<=i then(if i<n then some i.toNat else none) else if -(n:Int)<=i then some (i+n).toNat else none
def atI{α:Type}(xs:List α)(i:Int):Option α:=(ixN xs.length i).bind λj=>xs[j]?
theorem V8{n:Nat}{i:Int}{j:Nat}(h:ixN n i=some j):seqIndex? i n=some j/\j<n/\-(n:Int)<=i/\i<n:=by
 unfold ixN at h;by_cases h0:0<=i
 ·rw[Zan h0] at h;by_cases h1:i<n
  ·rw[Zan h1] at h;have e:i.toNat=j:=Zaf h;exact⟨by rw[seqIndex_of h0 h1,e],by lia,by lia,h1⟩
  ·rw[Zam h1] at h;cases h
 ·rw[Zam h0] at h;by_cases h1:-(n:Int)<=i
  ·rw[Zan h1] at h;have e:(i+n).toNat=j:=Zaf h;exact⟨by rw[seqIndex_neg (by lia) h1,e],by lia,h1,by lia⟩
  ·rw[Zam h1] at h;cases h
theorem Hb{α:Type}{xs:List α}{i:Int}{v:α}(h:atI xs i=some v):∃ j,seqIndex? i xs.length=some j/\xs[j]?=some v/\j<xs.length/\-(xs.length:Int)<=i/\i<xs.length:=by
 unfold atI at h;cases e:ixN xs.length i with
 |none=>rw[e] at h;cases h
 |some j=>
  rw[e] at h;obtain⟨h1,h2,h3,h4⟩:=V8 e;exact⟨j,h1,h,h2,h3,h4⟩
theorem qb{α:Type}{xs:List α}{j:Nat}{v:α}(h:xs[j]?=some v):atI xs (j:Int)=some v:=by
 have hj:j<xs.length:=(Zac.mp h).1;have e:ixN xs.length (j:Int)=some j:=by
  unfold ixN;rw[Zan (by lia),Zan (by lia)];simp
 unfold atI;rw[e];exact h
theorem Su{α:Type}(xs:List α)(v:α):atI (xs++[v]) (-1)=some v:=by
 have hl:(xs++[v]).length=xs.length+1:=by simp
 have e:ixN (xs++[v]).length (-1)=some xs.length:=by
  unfold ixN;rw[hl,Zam (by decide),Zan (by omega)]
  congr 1
  omega
 unfold atI;rw[e];show(xs++[v])[xs.length]?=some v
 simp
def V9(b:Expr):Prop:=∀ o i,subscripted b false o i=operate [o,i] (getItem o i)
def IxR(X:Cx)(r:R2):Prop:=
 ∀ (value slice:Expr) (pins:List (Addr×Obj)) (s:Shared) (O:St) (H:Hp) (x y:V) (v u:Value) (Q:VK),Inv X pins O H s->RelV x v->RelV y u->r x y H Q ->
  subscripted slice false v u=operate [v,u] (getItem v u)->wpAny (model X.prog X.w) X.A (subscriptTail value slice v u) (EP X pins O Q) X.xe s
def MtR(X:Cx)(id:String)(r:V->List V->Hp->VK->Prop):Prop:=
 ∀ (pins:List (Addr×Obj)) (s:Shared) (O:St) (H:Hp) (x:V) (xs:List V) (v:Value) (us:List Value) (Q:VK),Inv X pins O H s->RelV x v->Vals xs us->r x xs H Q ->
  wpAny (model X.prog X.w) X.A (call (.builtin id) (v::us)) (EP X pins O Q) X.xe s
section
variable{X:Cx}{a b:Expr}{ta tb:TE}{pos:Pos}
theorem IxR.or{r r':R2}(h:IxR X r)(h':IxR X r'):IxR X (λx y H Q=>r x y H Q\/r' x y H Q):=by
 intro value slice pins s O H x y v u Q I rx ry q hs;rcases q with q|q
 ·exact h value slice pins s O H x y v u Q I rx ry q hs
 ·exact h' value slice pins s O H x y v u Q I rx ry q hs
theorem bf{r:R2}(hr:IxR X r)(ha:PE X a ta)(hb:PE X b tb)(hs:V9 b):PE X (.Subscript a b pos) (tOp r ta tb):=by
 intro pins s O H Q I h;exact Subscript_ (Yt ha hb I h λv u s2 x y H2 I2 rx ry q=>hr a b pins s2 O H2 x y v u Q I2 rx ry q (hs _ _))
def Z3(K:Frag):R2:=λx y H Q=>∃ p xs i v,x=.ref p/\y=.int i/\SqL K H p xs/\atI xs i=some v/\Q v H
def Z4(K:Frag):R2:=λx y H Q=>∃ p xs i v,x=.ref p/\y=.int i/\SqT K H p xs/\atI xs i=some v/\Q v H
def Z5:R2:=λx y H Q=>∃ z i c,x=.str z/\y=.int i/\z.length<=sizeLine/\atI z.cps.toList i=some c/\Q (.str ⟨#[c]⟩) H
theorem Wa:IxR X (Z3 X.K):=by
 intro value slice pins s O H x y v u Q I rx ry h hs;obtain⟨p,xs,i,z,rfl,rfl,hq,he,q⟩:=h;cases rx;obtain⟨t,rfl⟩:=ry;obtain⟨its,r,pl,hz⟩:=I.list hq;obtain⟨j,h1,h2,h3,h4,h5⟩:=Hb he;obtain⟨w,ew,rw'⟩:=r.get h2;have hl:=r.length;have hn:=GX;have fin:EP X pins O Q w s:=⟨z,H,I,rw',q⟩;by_cases h0:0<=i
 ·have hj:i.toNat=j:=by
   rw[seqIndex_of h0 h5] at h1;exact Zaf h1
  exact item_listR pl.isList h0 (by lia) (by rw[hj];simpa using ew) fin hs
 ·have hj:(i+(its.toArray.size:Int)).toNat=j:=by
   rw[seqIndex_neg (by lia) h4] at h1
   rw[List.size_toArray,<-hl];exact Zaf h1
  exact subscriptTail_builtinR (x:=w) pl.isList.typeIs slot_list_getitem.lookup
   (wpAny_getItem_list_neg (Q:=λr s'=>r=w/\EP X pins O Q r s') pl.isList (by lia) (by rw[List.size_toArray]<;>lia) (by lia) (by rw[hj];simpa using ew) ⟨rfl,fin⟩) hs
theorem YF:IxR X (Z4 X.K):=by
 intro value slice pins s O H x y v u Q I rx ry h hs;obtain⟨p,xs,i,z,rfl,rfl,hq,he,q⟩:=h;cases rx;obtain⟨t,rfl⟩:=ry;obtain⟨its,r,pl,hz⟩:=I.tuple hq;obtain⟨j,h1,h2,h3,h4,h5⟩:=Hb he;obtain⟨w,ew,rw'⟩:=r.get h2;have hl:=r.length;have hn:=GX;have fin:EP X pins O Q w s:=⟨z,H,I,rw',q⟩;exact subscriptTail_builtinR (x:=w) pl.typeIs slot_tuple_getitem.lookup
  (getItem_tuple (j:=j) (Q:=λr s'=>r=w/\EP X pins O Q r s') pl (by omega) (by omega) (by rw[List.size_toArray,<-hl];exact h1) (by simpa using ew) ⟨rfl,fin⟩) hs
theorem YG:IxR X Z5:=by
 intro value slice pins s O H x y v u Q I rx ry h hs;obtain⟨z,i,c,rfl,rfl,hz,he,q⟩:=h;obtain⟨t,rfl⟩:=rx;obtain⟨t',rfl⟩:=ry;obtain⟨j,h1,h2,h3,h4,h5⟩:=Hb he;have hl:z.cps.toList.length=z.length:=by simp[Str.length]
 rw[hl] at h1 h4 h5;have hn:=GX;exact tail_any (typeIs_str s z t) slot_str_getitem.lookup (getItem_str (c:=c) (by
  have e1:decide (i < -(2^63:Int))=false:=ZaM (by lia)
  have e2:decide (i>=2^63)=false:=ZaM (by lia)
  rw[e1,e2,Bool.or_false]) (by rw[h1];simpa using h2) ⟨.str ⟨#[c]⟩,H,I.tok _,⟨_,rfl⟩,q⟩) hs
def rIx(K:Frag):R2:=λx y H Q=>Z3 K x y H Q\/Z4 K x y H Q\/Z5 x y H Q
theorem aX:IxR X (rIx X.K):=Wa.or (YF.or YG)
theorem Hc(lo hi:Option Int)(n:Nat):(sliceBounds lo hi none n).1=((HT.sIx n 0 lo:Nat):Int)/\(sliceBounds lo hi none n).2.1=((HT.sIx n n hi:Nat):Int)/\(sliceBounds lo hi none n).2.2=1:=by
 refine⟨?_,?_,rfl⟩
 ·cases lo with
  |none=>simp[sliceBounds,HT.sIx]
  |some i=>
   simp only[sliceBounds,HT.sIx,Option.getD_none,show(1:Int)>0 by decide,Zbw]
   by_cases h:i<0
   ·simp only[h,Zbw]<;>lia
   ·simp only[h,Zba]<;>lia
 ·cases hi with
  |none=>simp[sliceBounds,HT.sIx]
  |some i=>
   simp only[sliceBounds,HT.sIx,Option.getD_none,show(1:Int)>0 by decide,Zbw]
   by_cases h:i<0
   ·simp only[h,Zbw]<;>lia
   ·simp only[h,Zba]<;>lia
theorem El(its:List Value)(lo hi:Option Int):slicePick its.toArray lo hi none=((its.drop (HT.sIx its.length 0 lo)).take (HT.sIx its.length its.length hi-HT.sIx its.length 0 lo)).toArray:=by
 obtain⟨h1,h2,h3⟩:=Hc lo hi its.toArray.size;unfold slicePick;rw[h1,h2,h3];simp only[sliceRange_one,pick_run,List.size_toArray]<;>rfl
def Z6(K:Frag):V->Option Int->Option Int->Hp->VK->Prop:=λx lo hi H Q=>∃ a xs,x=.ref a/\SqL K H a xs/\∀ p,H p=none->Q (.ref p) (upd H p (.lst (GZ xs lo hi)))
theorem Wb:SlR X (Z6 X.K):=by
 intro pins s O H x v vl vu lo hi sl Q I rx hs pl pu h;obtain⟨a,xs,rfl,hx,q⟩:=h;cases rx;obtain⟨its,r,ht,hz⟩:=I.list hx;have hlen:=r.length;refine⟨"list",_,slot_list_getitem.lookup,ht.isList.typeIs,?_⟩;refine wpAny_getItem_list_slice ht.isList hs pl pu .none (by simp) ?_ (by rw[List.size_toArray]<;>lia)
 rw[El,<-hlen];refine⟨.ref s.heap.objs.size,_,I.laid (t':=s.toks) (o:=.lst (GZ xs lo hi)) (λb ob q=>Zai _ q) (Zal _) ?_,rfl,q _ (I.hok.fresh (Zal _))⟩;exact⟨ZaI (zm xs lo hi) hz,_,0,(r.drop (HT.sIx xs.length 0 lo)).take (HT.sIx xs.length xs.length hi-HT.sIx xs.length 0 lo),Zar _ rfl⟩
def aaS:V->Bool
 |.non=>true
 |.bl _=>true
 |.int _=>true
 |.str _=>true
 |_=>false
def eqV:V->V->Bool
 |.non,.non=>true
 |.bl a,.bl b=>a==b
 |.bl a,.int b=>(if a then 1 else 0)==b
 |.int a,.bl b=>a==(if b then 1 else 0)
 |.int a,.int b=>a==b
 |.str a,.str b=>a==b
 |_,_=>false
theorem mq:mW X (.type "list") (λxs H Q=>∃ p ys,xs=[.ref p]/\(SqL X.K H p ys\/SqT X.K H p ys)/\∀ l,H l=none->Q (.ref l) (upd H l (.lst ys))):=by
 intro pins s O H xs us Q I r h;obtain⟨p,ys,rfl,hq,q⟩:=h;obtain⟨u,rfl,rx⟩:=vals1 r;cases rx;have fin:∀ (its:List Value),Vals ys its->ys.length<=sizeLine->∀ (h':Heap) (c':Nat),(∀ b o',s.heap.get? b=some o'->h'.get? b=some o') ->
   h'.get? s.heap.objs.size=some { cls:=.type "list",dict:=none,data:=.seq its.toArray c',slots:=#[] }->EP X pins O Q (.ref s.heap.objs.size) { s with heap:=h' }:=λits r' hz h' c' kp e=>
  ⟨.ref s.heap.objs.size,_,I.laid (t':=s.toks) kp (Zal _) (show dB X.prog X.w _ h' _ (.lst ys) from⟨hz,its,c',r',e⟩),rfl,q _ (I.hok.fresh (Zal _))⟩
 rcases hq with hq|hq
 ·obtain⟨its,r',pl,hz⟩:=I.list hq;have hlen:=r'.length;obtain⟨o,ho,hc,n,hd⟩:=pl.isList;exact call_list_seq p (.inl rfl) ho hc hd (λh' c' kp e=>fin its r' hz h' c' kp e) (by simp only[List.size_toArray]<;>omega)
 ·obtain⟨its,r',pl,hz⟩:=I.tuple hq;have hlen:=r'.length;obtain⟨o,ho,hc,n,hd⟩:=pl;exact call_list_seq p (.inr rfl) ho hc hd (λh' c' kp e=>fin its r' hz h' c' kp e) (by simp only[List.size_toArray]<;>omega)
def tyV(K:Frag)(T:String)(x:V)(H:Hp):Prop:=match x with
 |.str _=>T="str"
 |.int _=>T="int"
 |.ref p=>(T="list"/\∃ xs,SqL K H p xs)\/(T="tuple"/\∃ o,K.lookup p=some o/\o.cls=.type "tuple"/\o.dict=none) \/
   (T="dict"/\((∃ kvs,H p=some (.dK kvs))\/∃ kvs,H p=some (.dT kvs)))\/(T="set"/\∃ S n,H p=some (.set S n))
 |_=>False
theorem YH{pins:List (Addr×Obj)}{O:St}{H:Hp}{s:Shared}{T:String}{x:V}{v:Value}(I:Inv X pins O H s)(r:RelV x v)(ty:tyV X.K T x H) :
  s.TypeIs v T/\∀ a,v=.ref a->∃ ob,s.heap.get? a=some ob/\ob.dict=none:=by
 cases x with
 |str z=>
  obtain⟨t,rfl⟩:=r;cases (show T="str" from ty);exact⟨typeIs_str s z t,λ_ e=>nomatch e⟩
 |int i=>
  obtain⟨t,rfl⟩:=r;cases (show T="int" from ty);exact⟨typeIs_int s i t,λ_ e=>nomatch e⟩
 |ref p=>
  cases r;rcases ty with⟨rfl,xs,hq⟩|⟨rfl,o,hk,hc,hd⟩|⟨rfl,hk⟩|⟨rfl,S,n,hk⟩
  ·obtain⟨its,_,pl,_⟩:=I.list hq;refine⟨pl.isList.typeIs,λa e=>?_⟩;cases e;obtain⟨o,n,e,c,hd,_⟩:=pl;exact⟨o,e,hd⟩
  ·refine⟨⟨o,I.kIn p o hk,hc⟩,λa e=>?_⟩;cases e;exact⟨o,I.kIn _ o hk,hd⟩
  ·have z:∃ o,s.heap.get? p=some o/\o.ExactDict:=by
    rcases hk with⟨kvs,hk⟩|⟨kvs,hk⟩
    ·obtain⟨_,_,_,_,o,_,_,e,ex,_⟩:=I.hok p _ hk;exact⟨o,e,ex⟩
    ·obtain⟨_,_,_,_,o,_,_,e,ex,_⟩:=I.hok p _ hk;exact⟨o,e,ex⟩
   obtain⟨o,e,ex⟩:=z;refine⟨⟨o,e,ex.1⟩,λa e2=>?_⟩;cases e2;exact⟨o,e,ex.2.1⟩
  ·obtain⟨o,_,_,_,e,ex,_⟩:=I.hok p _ hk;refine⟨⟨o,e,ex.1⟩,λa e2=>?_⟩;cases e2;exact⟨o,e,ex.2.1⟩
 |_=>exact False.elim ty
def tBM(K:Frag)(T:String)(r:V->List V->Hp->VK->Prop)(to:TE)(t:TA):TE:=λO H Q=>to O H λx H1=>tyV K T x H1/\t O H1 λxs H2=>r x xs H2 Q
variable{o e:Expr}{es:List Expr}{to:TE}{t:TA}{name:Str}{apos cpos:Pos}{T id:String}{r:V->List V->Hp->VK->Prop}
theorem qZ(pa:PlainAttrs T)(slot:Slot T name id)(hty:typeOf (.builtin id)=pure (.type "method_descriptor"))(hm:MtR X id r)(ho:PE X o to)(ha:PA X (e::es) t)
  (hbase:attributeBase o name X.env (eval o X.env)=eval o X.env:=by rfl)
  (hfew:((backTo cpos (starEach (e::es) X.env)).all (λx=>!x.1)&&(backToKw cpos (keywordEach [] X.env)).all (λx=>x.1.isSome)
   && decide ((e::es).length+([]:List Keyword).length+(if([]:List Keyword).isEmpty then 0 else 1)<30))=true:=by rfl)
  (hline:(apos.endLine==cpos.line)=true:=by rfl)(hs:starEach (e::es) X.env=(false,eval e X.env)::starEach es X.env:=by rfl)(hplain:(backTo cpos (starEach es X.env)).any (·.1)=false:=by rfl) :
  PE X (.Call (.Attribute o name apos) (e::es) [] cpos) (tBM X.K T r to t):=by
 intro pins s O H Q I h;refine wpAny_Call_method_late hbase hfew hline rfl (thn (ho pins s O H _ I h) ?_);rintro v s1 ⟨x,H1,I1,r1,ty,q1⟩;obtain⟨h1,h2⟩:=YH I1 r1 ty;refine⟨T,id,pa,slot,hty,h1,h2,?_⟩;have hA:=ha cpos pins s1 O H1 _ I1 q1;rw[hs] at hA ⊢;refine Zb0 (by show(false||(backTo cpos (starEach es X.env)).any (·.1))=false;rw[hplain]<;>rfl) (Zca ?_)
 exact thn hA λus s2 ⟨vs,H2,I2,r2,q2⟩=>hm pins s2 O H2 x vs v us Q I2 r1 r2 q2
end
def MtM(X:Cx)(id:String)(r:V->List V->Hp->VK->Prop):Prop:=
 ∀ (pins:List (Addr×Obj)) (s:Shared) (O:St) (H:Hp) (x:V) (xs:List V) (v:Value) (us:List Value) (Q:VK),Inv X pins O H s->RelV x v->Vals xs us->r x xs H Q ->
  wpAny (model X.prog X.w) X.A (call (.builtin id) (v::us)) (EP X pins O Q) X.xe s
theorem Vals.one:∀ {x:V}{us:List Value},Vals [x] us->∃ u,us=[u]/\RelV x u
 |_,_,.cons r .nil=>⟨_,rfl,r⟩
theorem Vals.two:∀ {x y:V}{us:List Value},Vals [x,y] us->∃ u v,us=[u,v]/\RelV x u/\RelV y v
 |_,_,_,.cons r (.cons q .nil)=>⟨_,_,rfl,r,q⟩
section
variable{X:Cx}{pins:List (Addr×Obj)}{O:St}{H:Hp}{s:Shared}{l:Addr}{xs ys:List V}
theorem Inv.Z7{its its':List Value}{n:Nat}{f:Array Value->Array Value}{t':Nat}(I:Inv X pins O H s)(hH:H l=some (.lst xs))
  (e:s.heap.get? l=some { cls:=.type "list",data:=.seq its.toArray n })(hf:f its.toArray=its'.toArray)(hv:Vals ys its')(hz:ys.length<=sizeLine) :
  Inv X pins O (upd H l (.lst ys)) { s with heap:=s.heap.update l (Obj.mapSeq f),toks:=t' }:=by
 have q:=PySem.IsL.update e f;rw[hf] at q;refine I.write (x:=l) (e:=l) (by rw[hH];exact trivial) (.inl rfl) (λb' u hb hu=>(Heap.get?_update_other s.heap (Obj.mapSeq f) (Zbj hb)).trans hu) ⟨_,q⟩ ?_
 exact⟨hz,its',_,hv,q⟩
theorem Inv.aaK{its:List Value}{t':Nat}(I:Inv X pins O H s)(hv:Vals ys its)(hz:ys.length<=sizeLine) :
  Inv X pins O (upd H s.heap.objs.size (.lst ys)) { s with heap:=s.heap.push { cls:=.type "list",data:=.seq its.toArray },toks:=t' }:=
 I.laid (λ_ _ q=>Zai _ q) (Zal _) ⟨hz,its,0,hv,Zar _ rfl⟩
theorem Inv.fresh(I:Inv X pins O H s):H s.heap.objs.size=none:=I.hok.fresh (Zal _)
theorem Inv.YJ(I:Inv X pins O H s)(hH:H l=some (.lst xs)):xs.length<=sizeLine/\∃ (its:List Value) (n:Nat),Vals xs its/\xs.length=its.length/\s.heap.get? l=some { cls:=.type "list",data:=.seq its.toArray n }:=by
 obtain⟨z,its,n,r,e⟩:=I.hok l _ hH;exact⟨z,its,n,r,r.length,e⟩
theorem Sv{n:Nat}(h:n<=sizeLine):Builtin.List.listTooLong n=false:=by
 unfold Builtin.List.listTooLong;exact ZaM (by omega)
end
section
variable{X:Cx}
def wu:V->List V->Hp->VK->Prop:=λx vs H Q=>∃ l xs y,x=.ref l/\vs=[y]/\H l=some (.lst xs)/\xs.length<sizeLine/\Q .non (upd H l (.lst (xs++[y])))
theorem eZ:MtM X "list.append" wu:=by
 intro pins s O H x vs v us Q I rx rv h;obtain⟨l,xs,y,rfl,rfl,hH,hz,q⟩:=h;cases rx;obtain⟨u,rfl,ru⟩:=rv.one;obtain⟨z,its,n,r,hl,e⟩:=I.YJ hH;refine call_meets F.slot_list_append ⟨_,e,rfl⟩ F.entry_list_append (F.args_list_append_2 _ _) (PySem.list_append l its.toArray n u (by rw[List.size_toArray];lia)) ⟨e,?_⟩
 refine⟨.non,_,I.Z7 (its':=its++[u]) hH e (by simp) (r.append (.cons ru .nil)) ?_,rfl,q⟩
 rw[ZaC,List.length_singleton];lia
def Om:V->List V->Hp->VK->Prop:=λx vs H Q=>∃ l b xs zs,x=.ref l/\vs=[.ref b]/\H l=some (.lst xs)/\H b=some (.lst zs)/\xs.length+zs.length<=sizeLine/\Q .non (upd H l (.lst (xs++zs)))
theorem QQ:MtM X "list.extend" Om:=by
 intro pins s O H x vs v us Q I rx rv h;obtain⟨l,b,xs,zs,rfl,rfl,hH,hB,hz,q⟩:=h;cases rx;obtain⟨u,rfl,ru⟩:=rv.one;cases ru;obtain⟨z,its,n,r,hl,e⟩:=I.YJ hH;obtain⟨z2,its2,n2,r2,hl2,e2⟩:=I.YJ hB;have hsz:its.toArray.size+its2.toArray.size<=sizeLine:=by rw[List.size_toArray,List.size_toArray];omega
 have hlong:¬(!its.toArray.isEmpty&&Builtin.List.listTooLong (its.toArray.size+its2.toArray.size))=true:=by
  rw[Sv hsz,Bool.and_false];exact Zbk
 refine call_meets F.slot_list_extend ⟨_,e,rfl⟩ F.entry_list_extend (F.args_list_extend_2 _ _)
  (AutoSeq1.list_extend_list_list_0 l its.toArray n b its2.toArray n2 hlong (by rw[List.size_toArray];omega) (by omega)) ⟨e,e2,?_⟩
 refine⟨.non,_,I.Z7 (its':=its++its2) hH e (by simp) (r.append r2) ?_,rfl,q⟩
 rw[ZaC];omega
end
end L2
namespace Att
open PySem PySem.W PySem.Calls PyProof.Rows
theorem zU{P:Params}{h:Heap}:∀ (ns:List Int) (vs:List Value),WellAll P h vs (ns.map WData.int)->IntsAre vs ns:=by
 intro ns;induction ns with
 |nil=>
  intro vs w;rw[Zcw] at w;cases w;exact .nil
 |cons n ns ih=>
  intro vs w;rw[Zap] at w;cases w with
  |cons a b=>
   cases a;exact .cons _ _ (ih _ b)
theorem QR{l:OpenLaw}{n:Nat}(hn:l.most=some n){P:Params}{h:Heap}{args:List WData}{vals:List Value}
  (hpre:l.row.toRowW.claim.pre args=true)(hwl:WellAll P h vals args) :
  ∃ a vs ns,vals=[Value.ref a]/\args=[WData.list (ns.map WData.int)]/\h.get? a=some { cls:=.type "list",data:=.seq vs.toArray }/\IntsAre vs ns/\ns.length<=n:=by
 have hsh:WShape.hasAll [] args [.list .int]=true:=(pre_splitW hpre).1;have hc:l.pre.holds [] { args:=args }=true:=(pre_splitW hpre).2;obtain⟨d,r,rfl,h1,h2⟩:=hasAllW_cons hsh;obtain rfl:=hasAllW_nil h2;obtain⟨xs,rfl,h3⟩:=hasW_list h1;obtain⟨ns,rfl⟩:=items_int h3;have hlen:ns.length<=n:=by
  unfold OpenLaw.pre at hc;have h4:(WTm.not (.lt (.lit (.int (n:Int))) (.len (.arg 0)))).holds [] { args:=[.list (ns.map .int)] }=true:=by
   have h4:=(holds_andW hc).1;rw[hn] at h4;exact h4
  have h5:=condW_of h4 (w_not (w_lt w_lit (w_len_list (w_arg rfl))));rw[Zab] at h5;refine Nat.le_of_not_lt λq=>?_;have q':(n:Int)<((ns.length:Nat):Int):=by omega
  first
   |(rw[ZaF q'] at h5;exact absurd h5 (by decide))
   |(simp at h5;omega)
 cases hwl with
 |cons w1 w2=>
  cases w2;cases w1 with
  |list ho hall=>exact⟨_,_,ns,rfl,rfl,ho,zU ns _ hall,hlen⟩
theorem QT(l:OpenLaw)(args:List WData):l.row.toRowW.claim.post args (.bool true) args=true:=
 postW_of (r:=l.row.toRowW) (X:=(true==true))
  (show WShape.has [] (.bool true) .bool=true by first|rfl|decide|simp[WShape.has,WShape.arms,WShape.armsAll])
  (show(WTm.eq .res (.lit (.bool true))).value [] { args:=args,res:=some (.bool true),after:=args }=some (.bool (true==true)) from w_eq_bool (w_res rfl) w_lit) rfl
theorem Jq{l:OpenLaw}{n:Nat}{q:Program}{loose:List Str}{XP:(Str->Option Value)->Heap->Prop}{YP:World->Heap->Prop}{d:DefRec}
  (hn:l.most=some n)(hdf:d.params.defaults=[])
  (call:∀ (w:World) (s₀ s₁:Shared) (mg mb:Str->Option Value) (fa:Addr) (o:Obj) (pm cd doc:Value) (a:Addr) (vs:List Value) (ns:List Int),
   Ground q loose [] XP w s₀ mg mb s₁.heap->YP w s₁.heap ->
   s₁.heap.get? fa=some o->o.data=.func (docDef d.name d.params d.body d.scope pm cd doc)->s₁.heap.CodeRec cd d.name->mg d.name=some (.ref fa) ->
   s₁.heap.get? a=some { cls:=.type "list",data:=.seq vs.toArray }->IntsAre vs ns->ns.length<=n->s₁.gens=#[] ->
   codeAny (model l.prog w) callerA (.call (.ref fa) ⟨[.ref a],[]⟩) (λr s'=>r=.ok (.ret (.bool true))/\OldK s₁.heap s'.heap/\s'.os=s₁.os/\AllBare s'.gens) s₁) :
  WalkO q loose XP YP l.row.toRowW d [] (λf vs=>PySem.call f vs):=by
 intro w s₀ s₁ mg mb G Y fa o pm cd doc dV kV ho hd hcd hD hmg hg args vals as hpre hlay hrd hwl hlo;obtain rfl:dV=.none:=Dflts.none hD hdf;obtain rfl:kV=.none:=Dflts.noKw hD;obtain⟨a,vs,ns,rfl,rfl,hobj,hints,hlen⟩:=QR hn hpre hwl;refine enter_call (codeAny_mono (call w s₀ s₁ mg mb fa o pm cd doc a vs ns G Y ho (fd_plain hd) hcd hmg hobj hints hlen hg) λr s' hq=>?_);obtain⟨rfl,h2,h3,h4⟩:=hq;exact⟨.inl ⟨.bool true,.bool true,[],rfl,λ_=>rfl,.bool true,QT l _,λ_=>⟨List.Pairwise.nil,λ_ hm=>(nomatch hm)⟩⟩,h2,h3,h4⟩
end Att
namespace L2
open PySem PySem.Spec PyProof.Rows
theorem sW:∀ {vs:List Value}{ns:List Int},IntsAre vs ns->Vals (ns.map V.int) vs
 |_,_,.nil=>.nil
 |_,_,.cons n t h=>.cons ⟨t,rfl⟩ (sW h)
def Only(H:Hp):Prop:=∀ b,H b=none\/∃ o xs,H b=some (.frz o (.lst xs))
theorem Sx{P:Program}{w:World}{K:Frag}{mg mb:Str->Option Value}{CX:CXT}{k:Nat}{fa a:Addr}{fd:FuncData}{x:Str}{sp:Sp}{s₁:Shared}{vs:List Value}{ns:List Int}
  (KX:K.In s₁.heap)(hns:s₁.heap.Ns mainGlobals mg)(hb:s₁.heap.Ns builtinsNs mb)(hbb:∀ x:Str,x≠"__name__"->mb x=bootBuiltins x)(hlim:s₁.heap.NoLimit)(hg:s₁.gens=#[])
  (ha:s₁.heap.get? a=some { cls:=.type "list",data:=.seq vs.toArray })(hi:IntsAre vs ns)(hl:ns.length<=sizeLine)(hr:gr k callerA)
  (F:∀ base:Heap,K.In base->base.Ns mainGlobals mg->Ek P w K mg base CX k fa fd [x] sp)(hbind:∀ (s:Shared) (u:Value),BindsTo s fd ⟨[u],[]⟩ [(x,u)])
  (hsp:∀ H:Hp,Only H->SqL K H a (ns.map V.int)->sp [.ref a] H (λv _=>v=.bl true) λ_ _ _=>False)
  (hCX:∀ H e s',CX [] H s₁ (λ_ _ _=>False) e s'->False) :
  codeAny (model P w) callerA (.call (.ref fa) ⟨[.ref a],[]⟩) (λr s'=>r=.ok (.ret (.bool true))/\OldK s₁.heap s'.heap/\s'.os=s₁.os/\AllBare s'.gens) s₁:=by
 have rv:=sW hi;have lenV:=hi.length;have core:∀ H:Hp,Only H->SqL K H a (ns.map V.int)->HOk P w H s₁.heap->(∀ b,H b≠none->b=a)->(H a≠none->K.lookup a=none) ->
   codeAny (model P w) callerA (.call (.ref fa) ⟨[.ref a],[]⟩) (λr s'=>r=.ok (.ret (.bool true))/\OldK s₁.heap s'.heap/\s'.os=s₁.os/\AllBare s'.gens) s₁:=by
  intro H hO hS hok hA hK;have base_of:∀ {b:Addr}{o:Obj},s₁.heap.get? b=some o->H b=none->(GF s₁.heap H).get? b=some o:=λe n=>R0 e n;have noA:∀ {b:Addr}{o:Obj}{es:Array DictEntry}{ep:Nat},s₁.heap.get? b=some o->o.data=.dict es ep->H b=none:=λ{b o es ep} e d=>by
   cases q:H b with
   |none=>rfl
   |some u=>
    have e':b=a:=hA b (by rw[q];simp)
    subst e';rw[ha] at e;cases e;have d':Data.seq vs.toArray _=Data.dict es ep:=d;cases d'
  have nsK:∀ {b:Addr}{m:Str->Option Value},s₁.heap.Ns b m->(GF s₁.heap H).Ns b m:=λ{b m} ⟨o,es,ep,e,d,r⟩=>⟨o,es,ep,base_of e (noA e d),d,r⟩;have hKb:K.In (GF s₁.heap H):=λb o e=>base_of (KX b o e) (by
   cases q:H b with
   |none=>rfl
   |some u=>
    have e':b=a:=hA b (by rw[q];simp)
    subst e';rw[hK (by rw[q];simp)] at e;cases e)
  have hM:Mod K mg (GF s₁.heap H):=⟨hKb,nsK hns,⟨mb,nsK hb,hbb⟩,let⟨mc,h1,h2⟩:=hlim;⟨mc,nsK h1,h2⟩⟩;have e0:V4 P w K mg (GF s₁.heap H) callerA [] s₁ H:=⟨rfl,hM,λb o e=>VP e,Zc1 (QF _ _),trivial,λb hb=>absurd (show b∈([]:List Addr) from hb) (by simp),hok,.of_eq hg⟩
  refine codeAny_mono ((F _ hKb (nsK hns)).run callerA [] s₁ H ⟨[.ref a],[]⟩ [.ref a] [.ref a] _ _ hr e0 (hbind s₁ (.ref a)) (.cons rfl .nil) (hsp H hO hS)) λr s' h=>?_;cases r with
  |error e=>exact(hCX H e s' h).elim
  |ok fl=>
   cases fl with
   |next=>exact False.elim h
   |brk=>exact False.elim h
   |cont=>exact False.elim h
   |ret u=>
    obtain⟨v,H',os,bare,un,hok',r',q⟩:=h;have q':v=.bl true:=q;subst q';obtain rfl:u=Value.bool true:=r';refine⟨rfl,OldK.of_keep λb o e=>?_,os,bare⟩;cases q:H b with
    |none=>exact un.keep b o e q (by intro z;exact absurd (show b∈([]:List Addr) from z) (by simp)) (by simp)
    |some u=>
     rcases hO b with z|⟨ob,xs,z⟩
     ·rw[q] at z;cases z
     ·have z2:=un.frzs b ob _ z;obtain⟨e1,_⟩:=hok b _ z;obtain⟨e2,_⟩:=hok' b _ z2;rw[e] at e1;cases e1;exact e2
 cases hk:K.lookup a with
 |some o=>
  have e:=KX a o hk;rw[ha] at e;cases e;refine core (λ_=>none) (λ_=>.inl rfl) (.inr ⟨_,vs.toArray,_,hk,rfl,rfl,rfl,by rw[List.size_toArray,lenV];exact hl,by simpa using rv⟩) (λb u z=>by have z':(none:Option HO)=some u:=z;cases z') (λb z=>absurd rfl z) λz=>absurd rfl z
 |none=>
  refine core (λb=>if b=a then some (.frz { cls:=.type "list",data:=.seq vs.toArray } (.lst (ns.map V.int))) else none) (λb=>?_) (.inl (.inr ⟨{ cls:=.type "list",data:=.seq vs.toArray },Zan rfl⟩)) (λb u z=>?_) (λb z=>?_) λ_=>hk
  ·by_cases hb:b=a
   ·exact .inr ⟨_,_,Zan hb⟩
   ·exact .inl (Zam hb)
  ·by_cases hb:b=a
   ·have z':=(Zan hb).symm.trans z;cases z';subst hb;exact⟨ha,by rw[Zab];exact hl,vs,_,rv,ha⟩
   ·have z':=(Zam hb).symm.trans z;cases z'
  ·by_cases hb:b=a
   ·exact hb
   ·exact absurd (Zam hb) z
theorem Wc{l:PySem.W.OpenLaw}{n k:Nat}{q:Program}{loose:List Str}{XP:(Str->Option Value)->Heap->Prop}{YP:World->Heap->Prop}{d:DefRec}{K:Params->Frag}{CX:World->CXT}{sp:World->Sp}{x:Str}
  (hn:l.most=some n)(hn2:n<=sizeLine)(hdf:d.params.defaults=[])(hr:gr k callerA)
  (hY:∀ (w:World) (h:Heap),YP w h->(K w.params).In h)
  (F:∀ (w:World) (mg:Str->Option Value) (fa:Addr) (h:Heap),(K w.params).In h->h.Ns mainGlobals mg->mg d.name=some (.ref fa) ->
   ∃ fd:FuncData,(∀ (s:Shared) (u:Value),BindsTo s fd ⟨[u],[]⟩ [(x,u)]) /\
    ∀ base:Heap,(K w.params).In base->base.Ns mainGlobals mg->Ek l.prog w (K w.params) mg base (CX w) k fa fd [x] (sp w))
  (hsp:∀ (w:World) (H:Hp) (a:Addr) (ns:List Int),ns.length<=n->Only H->SqL (K w.params) H a (ns.map V.int)->sp w [.ref a] H (λv _=>v=.bl true) λ_ _ _=>False)
  (hCX:∀ (w:World) (H:Hp) (s:Shared) (e:Value) (s':Shared),CX w [] H s (λ_ _ _=>False) e s'->False) :
  PySem.W.WalkO q loose XP YP l.row.toRowW d [] (λf vs=>PySem.call f vs):=by
 refine Att.Jq hn hdf λw s₀ s₁ mg mb fa o pm cd doc a vs ns G Y ho hd hcd hmg hobj hints hlen hg=>?_;have KX:=hY w _ Y;obtain⟨fd,hb,hF⟩:=F w mg fa _ KX G.T.g hmg;exact Sx KX G.T.g G.T.b G.T.builtins G.T.nolimit hg hobj hints (ZaI hlen hn2) hr hF hb (λH hO hS=>hsp w H a ns hlen hO hS) λH e s'=>hCX w H s₁ e s'
def bz(s:Stmt):Arguments:=match s with
 |.FunctionDef _ a _ _ _ _ _ _ _ _=>a
 |_=>{ posonlyargs:=[],args:=[],vararg:=none,kwonlyargs:=[],kw_defaults:=[],kwarg:=none,defaults:=[] }
def bw(s:Stmt):List Stmt:=match s with
 |.FunctionDef _ _ b _ _ _ _ _ _ _=>b
 |_=>[]
def aG(s:Stmt):Scope:=match s with
 |.FunctionDef _ _ _ _ _ _ sc _ _ _=>sc
 |_=>{ kind:=.function,names:=[],isGenerator:=false,isCoroutine:=false }
noncomputable abbrev CX0:CXT:=λ_ _ _ _ _ _=>False
noncomputable abbrev E0:XK:=λ_ _ _=>False
theorem Z8{X:Cx}:Mp CX0 X E0:=λ_ _ _ _ _ _ _ h=>h.elim
structure Fun(K:Frag)(x qual:Str)(st:Stmt)(f:Addr)(fd:FuncData):Prop where
 ex:∃ (oc:Value) (od:Option Addr) (kV doc pm:Value) (an:Option Addr) (cdv ct:Value) (osl:Array (Option Value)),
  fd=fnOf x qual (bz st) (bw st) (aG st) .none kV doc pm an cdv ct/\K.lookup f=some ⟨oc,od,.func fd,osl⟩/\codeIn K cdv qual=true
 kp:keepIn K (.ref f)=true
section
variable{P:Program}{w:World}{K:Frag}{mg:Str->Option Value}{base:Heap}
theorem Fun.ok{x qual:Str}{st:Stmt}{f:Addr}{fd:FuncData}{N ps:List Str}{k:Nat}{sp:Sp}(F:Fun K x qual st f fd)(S:bu N ps (aG st))(len:∀ vs H Q E,sp vs H Q E->vs.length=ps.length)
  (hbody:∀ (cdv:Value) (A:Around) (outer:List Env) (s:Shared) (H:Hp) (vs:List V) (Q:VK) (E:XK),gr k (A.deeper (envOfC qual (aG st) s.heap.objs.size f cdv))->sp vs H Q E ->
   ∃ t,PSs (Mq CX0 P w K mg base N qual (aG st) f cdv A outer s H E).nox (bw st) t/\t { nx:=λ_ H'=>Q .non H',rt:=Q } (start N vs) H):Ek P w K mg base CX0 (k+1) f fd ps sp:=by
 obtain⟨oc,od,kV,doc,pm,an,cdv,ct,osl,rfl,lk,hcd⟩:=F.ex;refine Z1 lk hcd S len λA outer s H vs Q E hr hsp=>?_;obtain⟨t,h,q⟩:=hbody cdv A outer s H vs Q E hr hsp;exact⟨t,h.nox,q⟩
theorem Fun.binds{x qual:Str}{st:Stmt}{f:Addr}{fd:FuncData}{ps:List Str}(F:Fun K x qual st f fd)
  (h:∀ (kV doc pm:Value) (an:Option Addr) (cdv ct:Value) (us:List Value),us.length=ps.length->bindArgs (fnOf x qual (bz st) (bw st) (aG st) .none kV doc pm an cdv ct) ⟨us,[]⟩=pure (ps.zip us)):Binds K fd ps []:=by
 obtain⟨oc,od,kV,doc,pm,an,cdv,ct,osl,rfl,lk,hcd⟩:=F.ex;exact .all (h kV doc pm an cdv ct)
theorem bY{x qual:Str}{st:Stmt}{f:Addr}{oc:Value}{od an:Option Addr}{osl:Array (Option Value)}{kV doc pm cdv ct:Value}(l:K.lookup f=some ⟨oc,od,.func (fnOf x qual (bz st) (bw st) (aG st) .none kV doc pm an cdv ct),osl⟩)
  (c:codeIn K cdv qual=true)(k:keepIn K (.ref f)=true):Fun K x qual st f (fnOf x qual (bz st) (bw st) (aG st) .none kV doc pm an cdv ct):=⟨⟨oc,od,kV,doc,pm,an,cdv,ct,osl,rfl,l,c⟩,k⟩
end
theorem jC{A:Around}{k:Nat}(hr:gr k A):A.units+1<cLine:=Zbr (Nat.add_le_add_left (by decide:1<=64) _) hr.units
theorem bI{n:Nat}(h:n<=1000):n<sizeLine:=Zbr h (by decide)
section
variable{X:Cx}
theorem pv(i:Nat){x:Str}{pos:Pos}(hN:X.N[i]?=some x:=by rfl)(hv:Vis X.env.scope x:=by first|exact Or.inl rfl|exact Or.inr (Or.inl rfl)|exact Or.inr (Or.inr rfl))(hd:(x==("__debug__":Str))=false:=by decide)
  (hcd:(x==("__classdict__":Str))=false:=by decide):PE X (.Name x pos) (mj i):=Ma hN hv hd hcd
end
theorem yw{c A B:Prop}[Decidable c](h1:c->A)(h2:¬c->B):if c then A else B:=by
 by_cases h:c
 ·rw[Zan h];exact h1 h
 ·rw[Zam h];exact h2 h
def aU(H H':Hp):Prop:=∀ b o,H b=some o->H' b=some o
theorem aU.refl(H:Hp):aU H H:=λ_ _ h=>h
theorem aU.trans{H H1 H2:Hp}(a:aU H H1)(b:aU H1 H2):aU H H2:=λc o h=>b c o (a c o h)
theorem aU.free{H H':Hp}(e:aU H H'){l:Addr}(h:H' l=Option.none):H l=Option.none:=by
 cases q:H l with
 |none=>rfl
 |some o=>
  rw[e l o q] at h;cases h
theorem aU.seq{K:Frag}{H H':Hp}{a:Addr}{xs:List V}(e:aU H H')(h:SqL K H a xs):SqL K H' a xs:=by
 rcases h with(h|⟨o,h⟩)|h
 ·exact .inl (.inl (e _ _ h))
 ·exact .inl (.inr ⟨o,e _ _ h⟩)
 ·exact .inr h
end L2
set_option maxHeartbeats 4000000
namespace Mth
def sub(l m:List Bool):Bool:=(List.range l.length).all λi=>!l.getD i false||m.getD i false
theorem Wd(n p:Nat):(n/2^p) &&& 1=(n.testBit p).toNat:=by
 have h:=Nat.testBit_eq_decide_div_mod_eq (x:=n) (i:=p);rw[Nat.and_one_is_mod,h];by_cases e:n/2^p%2=1
 ·simp[e]
 ·have:n/2^p%2=0:=by omega
  simp[this]
def pl(W:Nat)(c:Int×Int):Nat:=c.2.toNat*W+c.1.toNat
def cellOf(W:Nat)(i:Nat):Int×Int:=(((i%W:Nat):Int),((i/W:Nat):Int))
structure InR(W H:Nat)(c:Int×Int):Prop where
 c0:0<=c.1
 c1:c.1<W
 r0:0<=c.2
 r1:c.2<H
theorem sX(W i:Nat):pl W (cellOf W i)=i:=by
 unfold pl cellOf;simp only[ZaD];exact Nat.div_add_mod' i W
theorem yx{W H:Nat}{i:Nat}(h:i<W*H):InR W H (cellOf W i):=by
 have hW:0<W:=by
  rcases Nat.eq_zero_or_pos W with e|e
  ·subst e;simp at h
  ·exact e
 refine⟨ZaU _,?_,ZaU _,?_⟩
 ·exact Int.ofNat_lt.mpr (Nat.mod_lt _ hW)
 ·exact Int.ofNat_lt.mpr (Nat.div_lt_of_lt_mul h)
theorem Ft{W H:Nat}{c:Int×Int}(h:InR W H c):cellOf W (pl W c)=c:=by
 obtain⟨c0,c1,r0,r1⟩:=h;obtain⟨x,y⟩:=c;simp only at c0 c1 r0 r1;obtain⟨a,rfl⟩:=Za2 c0;obtain⟨b,rfl⟩:=Za2 r0;have hW:0<W:=by omega
 have ha:a<W:=by omega
 unfold cellOf pl;simp only[ZaD];rw[Nat.mul_comm b W,Nat.mul_add_mod,Nat.mod_eq_of_lt ha,Nat.mul_add_div hW,Nat.div_eq_of_lt ha,Nat.add_zero]
theorem Oo{W H:Nat}{c:Int×Int}(h:InR W H c):pl W c<W*H:=by
 obtain⟨c0,c1,r0,r1⟩:=h;unfold pl;have h1:c.1.toNat<W:=by omega
 have h2:c.2.toNat+1<=H:=by omega
 have h3:(c.2.toNat+1)*W<=H*W:=Nat.mul_le_mul_right W h2;rw[Nat.add_mul,Nat.one_mul] at h3;rw[Nat.mul_comm W H];omega
def zV(W:Nat)(ps:List (Int×Int)):Nat:=ps.foldl (λn c=>n ||| 2^pl W c) 0
theorem Jr(W:Nat):∀ (ps:List (Int×Int)) (n i:Nat),(ps.foldl (λn c=>n ||| 2^pl W c) n).testBit i=(n.testBit i||decide (∃ c∈ps,pl W c=i))
 |[],n,i=>by simp
 |c::ps,n,i=>by
  rw[Zc2,Jr W ps,Nat.testBit_or,Nat.testBit_two_pow,Bool.or_assoc];congr 1
  rw[Zb6];simp
theorem Oq(W:Nat)(ps:List (Int×Int))(i:Nat):(zV W ps).testBit i=decide (∃ c∈ps,pl W c=i):=by
 unfold zV;rw[Jr];simp
theorem QV(W:Nat)(ps:List (Int×Int))(c:Int×Int):zV W (ps++[c])=zV W ps ||| 2^pl W c:=by
 unfold zV;rw[List.foldl_append];rfl
def bits(W k:Nat)(ps:List (Int×Int)):List Bool:=(List.range k).map λi=>decide (cellOf W i∈ps)
def pick(W k:Nat)(q:Nat->Bool):List (Int×Int):=((List.range k).filter q).map (cellOf W)
theorem pD(W k:Nat)(q:Nat->Bool):(pick W k q).length<=k:=by
 unfold pick;rw[Zab];exact ZaI (ZaO _ _) (by simp)
end Mth
namespace L2
open PySem PySem.Spec PyProof.Rows
theorem uY{env:Env}:∀ (names:List (Str×NameKind)) (cs:List (Str×Addr)),(∀ x∈names,x.2=.free->∃ c,env.cells.lookup x.1=some c) ->
  (∀ x c,cs.lookup x=some c->env.cells.lookup x=some c) ->
  ∃ cl,(forIn names cs λx s=>if(x.snd==NameKind.free)=true then do let d <-cellOf env x.fst;pure (ForInStep.yield ((x.fst,d)::s)) else pure (ForInStep.yield s):Sem _)=pure cl /\
   (∀ x c,cl.lookup x=some c->env.cells.lookup x=some c)/\(∀ x c,cs.lookup x=some c->cl.lookup x=some c)/\∀ x,(x,NameKind.free)∈names->∃ c,cl.lookup x=some c
 |[],cs,_,h2=>⟨cs,rfl,h2,λ_ _ e=>e,λ_ h=>nomatch h⟩
 |(n,k)::r,cs,h1,h2=>by
  rw[List.forIn_cons];by_cases hk:k=.free
  ·subst hk;obtain⟨c,hc⟩:=h1 (n,.free) Zaw rfl;have ec:cellOf env n=pure c:=by unfold cellOf;simp only[hc]
   obtain⟨cl,e,p1,p2,p3⟩:=uY r ((n,c)::cs) (λx hx=>h1 x (Zaq _ hx)) (λx d e=>by
    rw[Zcl] at e;by_cases hx:x=n
    ·subst hx;simp at e;subst e;exact hc
    ·have hb:(x==n)=false:=beq_eq_false_iff_ne.mpr hx;rw[hb] at e;exact h2 x d e)
   refine⟨cl,?_,p1,λx d e'=>?_,λx hx=>?_⟩
   ·simp only[beq_self_eq_true,Zbw,ec];exact e
   ·by_cases hx:x=n
    ·subst hx;have:=h2 _ _ e';rw[hc] at this;cases this;exact p2 x c (by simp)
    ·have hb:(x==n)=false:=beq_eq_false_iff_ne.mpr hx;exact p2 x d (by rw[Zcl,hb];exact e')
   ·rcases ZaA.mp hx with e|hx
    ·cases e;exact⟨c,p2 n c (by simp)⟩
    ·exact p3 x hx
  ·obtain⟨cl,e,p1,p2,p3⟩:=uY r cs (λx hx=>h1 x (Zaq _ hx)) h2;have hb:(k==NameKind.free)=false:=by simpa using hk
   refine⟨cl,?_,p1,p2,λx hx=>?_⟩
   ·simp only[hb,Zbs,Zba];exact e
   ·rcases ZaA.mp hx with e|hx
    ·cases e;exact absurd rfl hk
    ·exact p3 x hx
theorem Mu{scope:Scope}{env:Env}(h:∀ x∈scope.names,x.2=.free->∃ c,env.cells.lookup x.1=some c):∃ cl,closureFor scope env=pure cl /\
  (∀ x c,cl.lookup x=some c->env.cells.lookup x=some c)/\∀ x,(x,NameKind.free)∈scope.names->∃ c,cl.lookup x=some c:=by
 obtain⟨cl,e,p1,_,p3⟩:=uY scope.names [] h (λ_ _ e=>nomatch e);refine⟨cl,?_,p1,p3⟩;simp only[closureFor];rw[e];rfl
noncomputable abbrev qK(env:Env)(x:Str×NameKind):Str×NameKind:=if(x.2==NameKind.free&&env.scope.kind==.function&&env.kindOf x.1==some .cell)=true then(x.1,NameKind.cell) else x
theorem QW(env:Env)(x:Str×NameKind):(qK env x).1=x.1:=by unfold qK;split<;>rfl
theorem ww{env:Env}:∀ (names:List (Str×NameKind)) (x:Str),(names.map (qK env)).lookup x=(names.lookup x).map λk=>(qK env (x,k)).2
 |[],x=>rfl
 |(n,k)::r,x=>by
  rw[Zap];have e1:qK env (n,k)=(n,(qK env (n,k)).2):=by
   have:=QW env (n,k);cases h:qK env (n,k) with
   |mk a b=>rw[h] at this;cases this;rfl
  rw[e1,Zcl,Zcl,ww r x];by_cases hx:x=n
  ·subst hx;simp
  ·have hb:(x==n)=false:=beq_eq_false_iff_ne.mpr hx;rw[hb]
theorem Em(scope:Scope)(env:Env):(relabel scope env).names=scope.names.map (qK env):=by
 unfold relabel;show List.map _ _=_
 refine Za6 λx _=>?_;obtain⟨n,k⟩:=x;rfl
theorem mX(scope:Scope)(env:Env)(x:Str):(relabel scope env).names.lookup x=(scope.names.lookup x).map λk=>(qK env (x,k)).2:=by
 rw[Em,ww]
theorem my{scope:Scope}{env:Env}{x:Str}{k:NameKind}(hk:k≠.free)(h:scope.names.lookup x=some k):(relabel scope env).names.lookup x=some k:=by
 rw[mX,h];simp[qK,hk]
theorem wy{scope:Scope}{env:Env}{x:Str}(h:scope.names.lookup x=some .free):(relabel scope env).names.lookup x=some .cell\/(relabel scope env).names.lookup x=some .free:=by
 rw[mX,h];simp only[Zbt,qK];split
 ·exact .inl rfl
 ·exact .inr rfl
theorem Mv{scope:Scope}{env:Env}{x:Str}(h0:scope.names.lookup x≠some .cell)(h:(relabel scope env).names.lookup x=some .cell\/(relabel scope env).names.lookup x=some .free):scope.names.lookup x=some .free:=by
 rw[mX] at h;cases e:scope.names.lookup x with
 |none=>rw[e] at h;simp at h
 |some k=>
  by_cases hk:k=.free
  ·rw[hk]
  ·rw[e] at h;simp[qK,hk] at h;subst h;exact absurd e h0
theorem lookup_mem{β:Type}:∀ {l:List (Str×β)}{x:Str}{v:β},l.lookup x=some v->(x,v)∈l
 |[],_,_,h=>nomatch h
 |(n,k)::r,x,v,h=>by
  rw[Zcl] at h;by_cases hx:x=n
  ·subst hx;simp at h;subst h;exact Zaw
  ·have hb:(x==n)=false:=beq_eq_false_iff_ne.mpr hx;rw[hb] at h;exact Zaq _ (lookup_mem h)
noncomputable abbrev Cx.comp(X:Cx)(N:List Str)(scope:Scope)(cl:List (Str×Addr))(C:Addr)(s2:Shared)(H2:Hp)(fp:List Addr):Cx where
 prog:=X.prog
 w:=X.w
 K:=X.K
 mg:=X.mg
 base:=X.base
 A:=X.A
 N:=N
 s₀:=s2
 H₀:=H2
 env:=compEnvC scope cl C X.env
 outer:=X.stack
 stack:=X.stack
 ex:=fp
 fn:=λ_=>false
 calm:=X.calm
 pn:=[]
 xe:=λ_ _=>False
def Bf(XN N:List Str)(xs scope:Scope)(fr:List (Option Nat)):Bool:=
 decide (fr.length=N.length)&&(scope.kind==.function)&&(scope.names.all λx=>!(x.2==.cell))&&(scope.names.all λx=>!(x.2==.local)||scope.names.lookup x.1==some .local) &&
 (scope.names.all λx=>!(x.2==.free)||(xs.names.lookup x.1==some .cell||xs.names.lookup x.1==some .free)) &&
 (List.range N.length).all λj=>match fr[j]?,N[j]? with
  |some (some i),some x=>decide (XN[i]?=some x)&&(scope.names.lookup x==some .free)
  |_,_=>true
theorem Js{XN N:List Str}{xs scope:Scope}{fr:List (Option Nat)}(h:Bf XN N xs scope fr=true) :
  fr.length=N.length/\scope.kind=.function/\(∀ x∈scope.names,x.2≠.cell)/\(∀ x∈scope.names,x.2=.local->scope.names.lookup x.1=some .local) /\
  (∀ x∈scope.names,x.2=.free->xs.names.lookup x.1=some .cell\/xs.names.lookup x.1=some .free) /\
  ∀ (j i:Nat) (x:Str),fr[j]?=some (some i)->N[j]?=some x->XN[i]?=some x/\scope.names.lookup x=some .free:=by
 unfold Bf at h;simp only[ZbY,decide_eq_true_eq,ZaP] at h;obtain⟨⟨⟨⟨⟨h1,h2⟩,h3⟩,h4⟩,h5⟩,h6⟩:=h;refine⟨h1,by simpa using h2,λx hx=>by simpa using h3 x hx,λx hx e=>?_,λx hx e=>?_,λj i x e1 e2=>?_⟩
 ·have:=h4 x hx;simp[e] at this;exact this
 ·have:=h5 x hx;simp[e] at this;exact this
 ·have hj:j<N.length:=(Zac.mp e2).1;have:=h6 j (Zav.mpr hj);rw[e1,e2] at this;simpa using this
def frσ(fr:List (Option Nat))(O:St):St:=fr.map λo=>match o with
 |some i=>match O[i]? with
  |some v=>v
  |none=>none
 |none=>none
theorem We{fr:List (Option Nat)}{O:St}{j:Nat}{v:V}(h:(frσ fr O)[j]?=some (some v)):∃ i,fr[j]?=some (some i)/\O[i]?=some (some v):=by
 unfold frσ at h;rw[Zad] at h;cases e:fr[j]? with
 |none=>rw[e] at h;cases h
 |some o=>
  rw[e] at h;cases o with
  |none=>cases h
  |some i=>
   simp only[Zbt] at h;cases e2:O[i]? with
   |none=>rw[e2] at h;cases h
   |some w=>rw[e2] at h;exact⟨i,rfl,by simpa[e2] using h⟩
def Sy(X:Cx)(ifs:List Expr)(t:TT):Prop:=
 ∀ (pins:List (Addr×Obj)) (s:Shared) (O:St) (H:Hp) (Q:Bool->Hp->Prop),Inv X pins O H s->t O H Q ->
  wpAny (model X.prog X.w) X.A (forIn ifs true λc r=>if r=true then do let ok <-isTrue c X.env (eval c X.env);pure (ForInStep.yield ok) else pure (ForInStep.yield r)) (TP X pins O Q) X.xe s
def Z9:TT:=λ_ H Q=>Q true H
theorem pg{X:Cx}:Sy X [] Z9:=λ_ _ _ H _ I h=>wpAny_tests_nil ⟨H,I,h⟩
theorem qd{X:Cx}{c:Expr}{t:TT}(h:PT X c t):Sy X [c] t:=λpins s O H Q I hw=>wpAny_tests_one (h pins s O H Q I hw)
def aaa(D:Addr)(tc:TT)(te:TE):TS:=λE O H=>tc O H λb H1=>if b=true then te O H1 λv H2=>∃ ys,H2 D=some (.lst ys)/\ys.length<sizeLine/\E.nx O (upd H2 D (.lst (ys++[v]))) else E.nx O H1
def endC(Q:VK)(D:Addr):Ends:={ nx:=λ_ H=>Q (.ref D) H,rt:=λ_ _=>False }
def Fv(wi:TI)(fr:List (Option Nat))(g:TG)(tc:TT)(te:TE):TE:=λO H Q=>wi O H λJ H1=>∀ D,H1 D=none->∃ W:Nat->Nat->St->Hp->Prop,(∃ m,W 0 m (frσ fr O) (upd H1 D (.lst [])))/\∀ i m O H,W i m O H ->
 (J.stop i H/\(endC Q D).nx O H)\/(J.go i H/\∃ N:St->Hp->Prop,(∀ O' H',N O' H'->∃ m',m'<m/\W (i+1) m' O' H')/\∀ x H',J.yld i H x H'->g x O H' λσ2 H2=>aaa D tc te { endC Q D with nx:=N,ct:=N,bk:=(endC Q D).nx } σ2 H2)
section
variable{prog:Program}{w:World}{A:Around}{R:Result->Shared->Prop}{s:Shared}
theorem QX{elt target iter:Expr}{ifs:List Expr}{scope:Scope}{pos:Pos}{it acc:Value}{env:Env}(I:Nat->Shared->Prop)
  (turn:∀ n s,I n s->wpAny (model prog w) A (pyNext it) (λr s₁=>match r with
   |none=>R (.ok .next) s₁
   |some v=>wpAny (model prog w) A (letOwnedTupleGo target it v) (λ_ s₁=>wpAny (model prog w) A (assign target env v) (λ_ s₂=>
     wpAny (model prog w) A (forIn ifs true λc r=>if r=true then do let ok <-isTrue c env (eval c env);pure (ForInStep.yield ok) else pure (ForInStep.yield r)) (λok s₃=>
      if ok=true then wpAny (model prog w) A (eval elt env) (λx s₄=>
       wpAny (model prog w) A (call (.builtin "list.append") [acc,x]) (λ_ s₅=>∃ m,m<n/\I m s₅) (notedBy (model prog w) A env λe s'=>R (.error e) s') s₄) (notedBy (model prog w) A env λe s'=>R (.error e) s') s₃
      else ∃ m,m<n/\I m s₃) (notedBy (model prog w) A env λe s'=>R (.error e) s') s₂) (notedBy (model prog w) A env λe s'=>R (.error e) s') s₁) (notedBy (model prog w) A env λe s'=>R (.error e) s') s₁) (notedBy (model prog w) A env λe s'=>R (.error e) s') s)
  (n:Nat)(h:I n s) :
  codeAny (model prog w) A (.compLoop (.ListComp elt [⟨target,iter,ifs,0⟩] scope pos) 0 it acc env) R s:=by
 refine codeAny_loop rfl I (λn s hI=>?_) n h;show wpAny _ A ((compTurn (.ListComp elt [⟨target,iter,ifs,0⟩] scope pos) 0 it acc env).onRaise (λx=>do noteFrame x env;theTreesLotGoes x)) _ _ s
 refine wpAny_noted ?_;rw[compTurn_list];refine Zaa (wpAny_standAt (Zaa (Zbn (turn n s hI) (λr s₁ h₁=>?_) λ_ _ h'=>h')));cases r with
 |none=>exact Zaj h₁
 |some v=>
  refine Zaa (Zbn h₁ (λ_ s₁' h₁'=>?_) λ_ _ h'=>h');refine Zaa (Zbn h₁' (λ_ s₂ h₂=>Zaa (Zbn h₂ (λok s₃ h₃=>?_) λ_ _ h'=>h')) λ_ _ h'=>h');cases ok with
  |false=>exact Zaj ⟨rfl,h₃⟩
  |true=>
   exact Zaa (Zaa (Zbn h₃ (λx s₄ h₄=>Zaa (Zbn h₄ (λ_ s₅ h₅=>Zaj (Zaj ⟨rfl,h₅⟩)) λ_ _ h'=>h')) λ_ _ h'=>h'))
end
structure Apart(X:Cx)(pins:List (Addr×Obj))(C:Addr):Prop where
 ne:C≠X.env.locals
 ab:X.s₀.heap.objs.size<=C
 cells:∀ x c,X.env.cells.lookup x=some c->c≠C
 pins:∀ p∈X.pn++pins,p.1≠C
section
variable{X:Cx}{elt tg iter:Expr}{ifs:List Expr}{scope:Scope}{pos pos':Pos}{wi:TI}{g:TG}{tc:TT}{te:TE}{pins:List (Addr×Obj)}{O:St}{H:Hp}{s:Shared}
theorem Jt(N:List Str)(fr:List (Option Nat))(hc:X.calm=true)(hi:PI X tg iter wi)(hg:∀ cl C s2 H2 fp,PG (X.comp N scope cl C s2 H2 fp) tg g)
  (ht:∀ cl C s2 H2 fp,Sy (X.comp N scope cl C s2 H2 fp) ifs tc)(he:∀ cl C s2 H2 fp,PE (X.comp N scope cl C s2 H2 fp) elt te)
  (ok:Bf X.N N X.env.scope scope fr=true)(hs:∀ x,foldedSetIterable iter X.env x=pure x){Q:VK}{Q':Value->Shared->Prop}{use:Option (Value->Sem Unit)}
  (I:Inv X pins O H s)(h:Fv wi fr g tc te O H Q)
  (fin:∀ D C s' H',Inv X pins O H' s'->H' C=none->Apart X pins C->(∃ m,s'.heap.Ns C m)->Q (.ref D) H'->compPost (model X.prog X.w) X.A X.xe use Q' (.ref D) C (.ok .next) s') :
  wpAny (model X.prog X.w) X.A (comprehension (.ListComp elt [⟨tg,iter,ifs,0⟩] scope pos) scope X.env pos' (newList []) false (eval iter X.env) use) Q' X.xe s:=by
 obtain⟨o1,o2,o3,o4,o5,o6⟩:=Js ok;obtain⟨cl,hclos,c1,c2⟩:=Mu (scope:=scope) (env:=X.env) (λx hx hf=>I.ok.has x.1 (o5 x hx hf));refine wpAny_comprehension_free (use:=use) rfl hs hclos o2 o4 (thn (hi pins s O H _ I h) λxv s1 h1=>thn h1 λitv s2 h2=>?_);obtain⟨it,fp,tn,J,H2,rfl,I2,T,st2,f2,hW⟩:=h2;refine Za5 (wpAny_newFunctionEnv o3 (by intro y hy;simp at hy) (λh₁ hns₁ hsb₁=>?_) o2)
 dsimp only at hns₁ hsb₁ ⊢;generalize hHH:s2.heap.push { cls:=.type "list",dict:=none,data:=.seq ([]:List Value).toArray }=HH at hns₁ hsb₁ ⊢
 have hC:HH.objs.size=s2.heap.objs.size+1:=by rw[<-hHH,Heap.size_push]
 have hDC:s2.heap.objs.size≠HH.objs.size:=by rw[hC];exact ZaE (ZcX _)
 have hCle:s2.heap.objs.size<=HH.objs.size:=by rw[hC];exact ZbO _
 have neC:∀ b,b<s2.heap.objs.size->b≠HH.objs.size:=λb hb=>by rw[hC];exact ZaE (ZcR hb)
 have old:∀ b o,s2.heap.get? b=some o->h₁.get? b=some o:=λb o e=>hsb₁.extBut b o (neC b (Zat e)) (Zai _ (hHH▸Zai _ e));have atD:h₁.get? s2.heap.objs.size=some { cls:=.type "list",data:=.seq ([]:List Value).toArray }:=hsb₁.extBut _ _ hDC (Zai _ (hHH▸Zar _ rfl));have ltf:∀ b∈fp,b<s2.heap.objs.size:=λb hb=>let⟨o,e,_⟩:=T.obj _ _ st2 b hb;Zat e;have ltc:∀ x c,X.env.cells.lookup x=some c->c<s2.heap.objs.size:=λx c e=>let⟨v,q⟩:=I2.cell x c e;q.lt;have ltp:∀ p∈X.pn++pins,p.1<s2.heap.objs.size:=λp hp=>Zat (I2.pin p hp).1;have fresh:H2 s2.heap.objs.size=none:=I2.hok.fresh (Zal _);have freshC:H2 HH.objs.size=none:=I2.hok.fresh hCle;have ap:Apart X pins HH.objs.size:=⟨Zb5 (ZaH I2.lt hCle),ZaI I2.sz hCle,λx c e=>neC c (ltc x c e),λp hp=>neC _ (ltp p hp)⟩;have okY:(X.comp N scope cl HH.objs.size s2 H2 fp).Ok:={
  mod:=I2.ok.mod
  kind:=o2
  glob:=I2.ok.glob
  blt:=I2.ok.blt
  above:=hCle
  inj:=λx y c a b=>I2.ok.inj x y c (c1 _ _ a) (c1 _ _ b)
  has:=λx hx=>c2 x (lookup_mem (Mv (λz=>o3 _ (lookup_mem z) rfl) hx))
  cab:=λx c hx _=>by cases hx
  hd:=I2.ok.hd
  frames:=I2.ok.frames
  stk:=.inl rfl
  exf:=λb hb=>⟨neC b (ltf b hb),λx c e=>(f2 b hb).2.2.2.2.1 x c (c1 x c e)⟩
  bs:=I2.bs
  bsz:=ZaI I2.ok.bsz I2.sz
  noex:=λb o e hb=>by
   rcases(f2 b hb).2.2.2.1 with z|z
   ·exact I2.ok.noex b o e z
   ·exact absurd (ZaH (Zat e) (ZaI I2.ok.bsz z)) (ZbU _)
  exfs:=λb hb hf=>by
   rcases ZaA.mp (I2.LR b hf) with z|z
   ·exact(f2 b hb).2.1 z
   ·exact(f2 b hb).2.2.1 z
  zT:=I2.stack
  frf:=I2.Oc }
 have IY:Inv (X.comp N scope cl HH.objs.size s2 H2 fp) [] (frσ fr O) (upd H2 s2.heap.objs.size (.lst [])) { s2 with heap:=h₁,toks:=s2.toks+([]:List (Str×Value)).length }:={
  ok:=okY
  os:=rfl
  bare:=I2.bare
  base:=Un.laid old (Zal _) fresh
  loc:=by
   refine⟨_,hns₁,λj x v e1 e2 e3=>?_⟩;obtain⟨i,f1,f2'⟩:=We e2;obtain⟨g1,g2⟩:=o6 j i x f1 e1;have k2:=o5 _ (lookup_mem g2) rfl;obtain⟨m2,hm2,l2⟩:=I2.loc;obtain⟨u,ru,lk⟩:=l2 i x v g1 f2' (.inr k2);refine⟨u,ru,.inr ⟨wy g2,?_⟩⟩;obtain⟨c,hcl⟩:=c2 x (lookup_mem g2);refine⟨c,hcl,?_⟩;rcases lk with⟨k,_⟩|⟨_,c',e',z⟩
   ·rcases k2 with k2|k2
    ·rw[show X.env.kindOf x=X.env.scope.names.lookup x from rfl,k2] at k;cases k
    ·rw[show X.env.kindOf x=X.env.scope.names.lookup x from rfl,k2] at k;cases k
   ·rw[c1 x c hcl] at e';cases e';obtain⟨oc,hoc,hd⟩:=z;exact⟨oc,old c oc hoc,hd⟩
  cell:=λx c e=>by
   obtain⟨v,oc,hoc,hd⟩:=I2.cell x c (c1 x c e);exact⟨v,oc,old c oc hoc,hd⟩
  free:=(aL (Zbj hDC)).trans freshC
  freeC:=λx c e=>by
   rw[aL (ZaE (ltc x c (c1 x c e)))];exact I2.freeC x c (c1 x c e)
  pin:=λp hp=>by cases hp
  hok:=I2.hok.laid old (Zal _) ⟨Za7 _,[],0,.nil,atD⟩
  len:=by unfold frσ;rw[Zab];exact o1 }
 have stat:∀ {H':Hp}{pp:List (Addr×Obj)},pp=[]->(∀ b∈fp,H' b=none)->∀ b∈fp,Az (X.comp N scope cl HH.objs.size s2 H2 fp) pp H' b:=λ{H' pp} hp hn b hb=>by
  subst hp;exact⟨hn b hb,neC b (ltf b hb),λz=>okY.exfs b hb z,.inl hb,λx c e=>(f2 b hb).2.2.2.2.1 x c (c1 x c e),λp hp=>by cases hp⟩
 have back:∀ {O':St}{H':Hp}{s':Shared},Inv (X.comp N scope cl HH.objs.size s2 H2 fp) [] O' H' s'->Inv X pins O H' s':=λ{O' H' s'} I'=>
  I2.call' (ch:=fp) I'.os I'.base I'.hok I'.bare λb hb=>⟨(f2 b hb).2.2.2.1,(f2 b hb).2.1,(f2 b hb).2.2.2.2.1,(f2 b hb).2.2.2.2.2⟩
 have loop:∀ s₃:Shared,s₃={ s2 with heap:=h₁,toks:=s2.toks+([]:List (Str×Value)).length } ->
   codeAny (model X.prog X.w) X.A (.compLoop (.ListComp elt [⟨tg,iter,ifs,0⟩] scope pos) 0 (.ref it) (.ref s2.heap.objs.size) (compEnvC scope cl HH.objs.size X.env))
    (compPost (model X.prog X.w) X.A X.xe use Q' (.ref s2.heap.objs.size) HH.objs.size) s₃:=by
  rintro s₃ rfl;obtain⟨W,⟨m0,w0⟩,turn⟩:=hW s2.heap.objs.size fresh;refine QX (λn s'=>∃ i O' H',Inv (X.comp N scope cl HH.objs.size s2 H2 fp) [] O' H' s'/\tn i s'.heap/\(∀ b∈fp,H' b=none)/\W i n O' H') ?_ m0
   ⟨0,_,_,IY,T.keep _ _ _ st2 λb _ o e=>old b o e,λb hb=>by rw[aL (ZaE (ltf b hb))];exact(f2 b hb).1,w0⟩
  rintro n s3 ⟨i,σ3,H3,I3,st3,fr3,w3⟩;rcases turn i n σ3 H3 w3 with⟨stop,q⟩|⟨go,Nx,hN,step⟩
  ·refine thn (T.done (X.comp N scope cl HH.objs.size s2 H2 fp) rfl rfl rfl hc i [] s3 σ3 H3 _ I3 (stat rfl fr3) st3 stop) ?_;rintro r s4 ⟨hr,I4⟩;subst hr;obtain⟨m4,hm4,_⟩:=I4.loc;exact fin _ _ s4 H3 (back I4) I4.free ap ⟨m4,hm4⟩ q
  ·refine thn (T.item (X.comp N scope cl HH.objs.size s2 H2 fp) rfl rfl rfl hc i [] s3 σ3 H3 _ I3 (stat rfl fr3) st3 go) ?_;rintro r s4 ⟨u,hr,h4⟩;subst hr;refine thn h4 ?_;rintro _ s5 ⟨x,H5,I5,r5,y5,st5,fr5⟩;have I5':=I5.pinned (stat rfl fr5) (T.obj _ _ st5);refine Zbn (hg cl HH.objs.size s2 H2 fp _ s5 σ3 H5 x u _ I5' r5 (step x H5 y5)) (?_) λ_ _ f=>f.elim;rintro _ s6 ⟨σ6,H6,I6,q6⟩;have again:∀ {s7:Shared}{σ7:St}{H7:Hp},Inv (X.comp N scope cl HH.objs.size s2 H2 fp) ([]++Ba fp s5.heap) σ7 H7 s7->Nx σ7 H7 ->
     ∃ m,m<n/\∃ i O' H',Inv (X.comp N scope cl HH.objs.size s2 H2 fp) [] O' H' s7/\tn i s7.heap/\(∀ b∈fp,H' b=none)/\W i m O' H':=λ{s7 σ7 H7} I7 n7=>by
    obtain⟨m',hm,w7⟩:=hN σ7 H7 n7;refine⟨m',hm,i+1,σ7,H7,I7.wg,T.keep _ _ _ st5 λb hb o e=>(I7.pin (b,o) (ZaN _ (ZaN _ (p8 hb e)))).1,λb hb=>?_,w7⟩;obtain⟨o,e,d⟩:=T.obj _ _ st5 b hb;exact(I7.pin (b,o) (ZaN _ (ZaN _ (p8 hb e)))).2.1
   refine Zbn (ht cl HH.objs.size s2 H2 fp _ s6 σ6 H6 _ I6 q6) (?_) λ_ _ f=>f.elim;rintro b s7 ⟨H7,I7,q7⟩;cases b with
   |false=>
    rw[Zam (by decide)] at q7 ⊢
    exact again I7 q7
   |true=>
    rw[Zan rfl] at q7 ⊢;refine Zbn (he cl HH.objs.size s2 H2 fp _ s7 σ6 H7 _ I7 q7) (?_) λ_ _ f=>f.elim;rintro y s8 ⟨v,H8,I8,r8,q8⟩;obtain⟨ys,e8,l8,n8⟩:=q8;refine Zbn (eZ (X:=X.comp N scope cl HH.objs.size s2 H2 fp) _ s8 σ6 H8 (.ref s2.heap.objs.size) [v] (.ref s2.heap.objs.size) [y] (λ_ H9=>Nx σ6 H9) I8 rfl (.cons r8 .nil) ⟨_,ys,v,rfl,rfl,e8,l8,n8⟩) (?_) λ_ _ f=>f.elim;rintro _ s9 ⟨_,H9,I9,_,n9⟩;exact again I9 n9
 exact codeAny_compStart_list (loop _ rfl) (T.self _ 0 _ _ _ (T.keep _ _ _ st2 λb _ o e=>old b o e) (loop _ rfl))
theorem d7(N:List Str)(fr:List (Option Nat))(hc:X.calm=true)(hi:PI X tg iter wi)(hg:∀ cl C s2 H2 fp,PG (X.comp N scope cl C s2 H2 fp) tg g)
  (ht:∀ cl C s2 H2 fp,Sy (X.comp N scope cl C s2 H2 fp) ifs tc)(he:∀ cl C s2 H2 fp,PE (X.comp N scope cl C s2 H2 fp) elt te)
  (ok:Bf X.N N X.env.scope scope fr=true:=by kernel_rfl)(hs:∀ x,foldedSetIterable iter X.env x=pure x:=by intro _;rfl) :
  PE X (.ListComp elt [⟨tg,iter,ifs,0⟩] scope pos) (Fv wi fr g tc te):=by
 intro pins s O H Q I h;rw[eval_ListComp];refine Jt (use:=none) N fr hc hi hg ht he ok hs I h λD C s' H' I' hn ap hm q=>?_;obtain⟨m,hm⟩:=hm;exact⟨m,hm,λh' sb=>⟨.ref D,H',I'.turned (t':=s'.toks) (λb o hb e=>(sb.2 b hb).trans e) hn ap.ne (.inr ap.ab) ap.cells ap.pins,rfl,q⟩⟩
theorem Ot{i:Nat}{y:Str}{py spos:Pos}(N:List Str)(fr:List (Option Nat))(hc:X.calm=true)(hN:X.N.Nodup)(hiy:X.N[i]?=some y)(hy:X.env.scope.names.lookup y=some .local)(hi:PI X tg iter wi)
  (hg:∀ cl C s2 H2 fp,PG (X.comp N scope cl C s2 H2 fp) tg g)(ht:∀ cl C s2 H2 fp,Sy (X.comp N scope cl C s2 H2 fp) ifs tc)(he:∀ cl C s2 H2 fp,PE (X.comp N scope cl C s2 H2 fp) elt te)
  (ok:Bf X.N N X.env.scope scope fr=true:=by kernel_rfl)(hs:∀ x,foldedSetIterable iter X.env x=pure x:=by intro _;rfl)
  (hsw:swapsWith (.ListComp elt [⟨tg,iter,ifs,0⟩] scope pos) (some (.Name y py)) spos.line X.env=pure true:=by rfl) :
  PS X (.Assign [.Name y py] (.ListComp elt [⟨tg,iter,ifs,0⟩] scope pos) spos) (QH (Fv wi fr g tc te) (zj i)):=by
 intro pins s O H D I h;rw[exec_Assign_Name_used _ _ _ _ hsw];refine Zaa (wpAny_standAt (Zaa ?_));show wpAny _ X.A (do let _ <-comprehension (.ListComp elt [⟨tg,iter,ifs,0⟩] scope pos) scope X.env _ (newList []) false (eval iter X.env) (some (assign (.Name y py) X.env))) _ _ s
 refine Zaa (Zbn (Jt (use:=some (assign (.Name y py) X.env)) (Q':=λ_ s'=>SP X pins D .next s') N fr hc hi hg ht he ok hs I h λDa C s' H' I' hn ap hm q=>?_) (λ_ s' hq=>Zaj (Zaj hq)) λ_ _ e=>e);obtain⟨m,hm⟩:=hm;show wpAny _ X.A (assign (.Name y py) X.env (.ref Da)) _ _ _
 refine wpAny_assign_Name (Fe I' hN hiy (.inl hy) (v:=.ref Da) rfl (λs'' I'' hsb=>?_) (.inr hy));obtain⟨a,sb,ha⟩:=hsb;have hne:C≠a:=by
  rcases ha with z|z
  ·rw[z];exact ap.ne
  ·exact Zbj (ap.cells y a z)
 exact⟨m,hm.sameBut sb hne,λh' sb'=>⟨_,H',I''.turned (t':=s''.toks) (λb o hb e=>(sb'.2 b hb).trans e) hn ap.ne (.inr ap.ab) ap.cells ap.pins,q⟩⟩
end
section
variable{X:Cx}{pins:List (Addr×Obj)}{O:List (Option V)}{H:Hp}{s:Shared}{h':Heap}
theorem Inv.sY{t':Nat}{ch:List Addr}(I:Inv X pins O H s)(k:∀ b o,b ∉ ch->s.heap.get? b=some o->h'.get? b=some o)(hf:∀ b∈ch,Az X pins H b):Inv X pins O H { s with heap:=h',toks:=t' }:=by
 have nit:∀ b u,H b=some u->b ∉ ch:=λb u e z=>by rw[(hf b z).1] at e;cases e
 refine I.step (g':=s.gens) (d':=s.drawn) (ch:=ch) (λb hb=>⟨(hf b hb).2.2.2.1,(hf b hb).2.1,(hf b hb).2.2.2.2.1,(hf b hb).2.2.2.2.2⟩) (λb o _ _ hc e _=>k b o hc e) (λb o _ _ hc e _=>⟨o.slots,k b o hc e⟩) (λ_ _ _ _ n=>n)
  (λb o hc e=>⟨o,k b o hc e⟩) (λ_ _ e=>e) (λ_ _ _ e=>e) (λb ps e=>⟨#[],by rw[e];simp⟩) (λm hm=>?_) (λb u e=>?_) I.bare
 ·obtain⟨o,es,ep,ho,r⟩:=hm;exact⟨o,es,ep,k _ o (λz=>(hf _ z).2.1 rfl) ho,r⟩
 ·refine(I.hok b u e).stay (λc v hc q=>k c v ?_ q) (λ_ q=>q) λ_ _ q=>q;rcases hc with z|z
  ·rw[z];exact nit b u e
  ·exact nit c _ z
theorem Inv.sZ{t':Nat}{ch:List Addr}{a:Addr}{o:HO}(I:Inv X pins O H s)(k:∀ b o,b ∉ ch->s.heap.get? b=some o->h'.get? b=some o)(hf:∀ b∈ch,Az X pins H b)(ha:s.heap.objs.size<=a)
  (new:dB X.prog X.w (upd H a o) h' a o):Inv X pins O (upd H a o) { s with heap:=h',toks:=t' }:=by
 have hn:H a=none:=I.hok.fresh ha;have nit:∀ b u,H b=some u->b ∉ ch:=λb u e z=>by rw[(hf b z).1] at e;cases e
 have ne:∀ b ob,s.heap.get? b=some ob->b≠a:=λb ob e z=>by rw[z] at e;exact absurd (ZaH (Zat e) ha) (ZbU _)
 refine I.step (g':=s.gens) (d':=s.drawn) (ch:=ch) (λb hb=>⟨(hf b hb).2.2.2.1,(hf b hb).2.1,(hf b hb).2.2.2.2.1,(hf b hb).2.2.2.2.2⟩) (λb o _ _ hc e _=>k b o hc e) (λb o _ _ hc e _=>⟨o.slots,k b o hc e⟩) (λb ob _ e n=>by rw[aL (ne b ob e)];exact n)
  (λb o hc e=>⟨o,k b o hc e⟩) (λb xs e=>by rw[aL (cj e hn)];exact e) (λb ob u e=>by rw[aL (cj e hn)];exact e) (λb ps e=>⟨#[],by rw[aL (cj e hn),e];simp⟩) (λm hm=>?_) (λb u e=>?_) I.bare
 ·obtain⟨o,es,ep,ho,r⟩:=hm;exact⟨o,es,ep,k _ o (λz=>(hf _ z).2.1 rfl) ho,r⟩
 ·by_cases hb:b=a
  ·subst hb;rw[aP] at e;cases e;exact new
  ·rw[aL hb] at e;refine(I.hok b u e).stay (λc v hc q=>k c v ?_ q) (λc q=>by rw[aL (cj q hn)];exact q) λc xs q=>by rw[aL (cj q hn)];exact q
   rcases hc with z|z
   ·rw[z];exact nit b u e
   ·exact nit c _ z
end
def Itf(f:Nat->V)(n:Nat):It:=⟨λi _=>i<n,λi H x H'=>H'=H/\x=f i,λi _=>i=n⟩
def sgn(z:Str)(i:Nat):V:=.str ⟨#[z.cps.getD i 0]⟩
theorem Fw{P:Program}{w:World}{A:Around}(hh:A.handled=none)(it:Addr)(z:Str)(t:Tok):Walks P w A it [it] [it] z.cps.size (SignAt z) (λi h=>h.IsStrIter it (strIterType z) z t i):=by
 unfold strIterType;split
 ·exact Walks.strAscii hh it z t
 ·exact Walks.strWide hh it z t
theorem SJ{P:Program}{w:World}{K:Frag}{tg:Expr}(it:Addr)(z:Str)(t:Tok):Turn P w K tg (Itf (sgn z) z.cps.size) [it] it (λi h=>h.IsStrIter it (strIterType z) z t i) where
 mem:=by simp
 obj:=λi h st b hb=>by
  have e:b=it:=by simpa using hb
  subst e;obtain⟨o,e,c,d⟩:=st;exact⟨o,e,λv z=>by rw[d] at z;cases z⟩
 keep:=λi h h' st k=>let⟨o,e,r⟩:=st;⟨o,k it (by simp) o e,r⟩
 item:=by
  intro X hP hw hK hc i pins s O H E I hf st hg;subst hP hw hK;obtain⟨f0,f1,f2,f3,f4,f5⟩:=hf it (by simp)
  have W:=Fw (P:=X.prog) (w:=X.w) (I.ok.hd hc) it z t;refine W.item i s _ _ hg st λv h' tk hv st' kk=>?_;obtain⟨c,u,hx,rfl⟩:=hv;have I1:Inv X pins O H { s with heap:=h',toks:=tk }:=I.turned (λb o hb e=>kk b o (by simpa using hb) e) f0 f1 f3 f4 f5
  obtain⟨o,e,cc,d⟩:=id st';have ec:z.cps.getD i 0=c:=by rw[Za0,hx];rfl
  refine⟨_,rfl,Fi (s:={ s with heap:=h',toks:=tk }) e cc d (by unfold strIterType;split<;>decide) ⟨sgn z i,H,I1,⟨u,?_⟩,⟨rfl,rfl⟩,st',λb hb=>(hf b hb).1⟩⟩
  rw[ec]
 done:=by
  intro X hP hw hK hc i pins s O H E I hf st hg;subst hP hw hK;have hg':i=z.cps.size:=hg;subst hg';obtain⟨f0,f1,f2,f3,f4,f5⟩:=hf it (by simp)
  have W:=Fw (P:=X.prog) (w:=X.w) (I.ok.hd hc) it z t;exact W.done s _ _ st λh' tk kk=>⟨rfl,I.turned (λb o hb e=>kk b o (by simpa using hb) e) f0 f1 f3 f4 f5⟩
 self:=λA i s Q E st h=>by
  unfold strIterType at st;split at st
  ·exact wpAny_pyIter_striter_ascii st h
  ·exact wpAny_pyIter_striter_wide st h
def Ite(K:Frag)(a:Addr):It:=
 ⟨λi H=>∃ xs x,SqL K H a xs/\xs[i]?=some x,λi H x H'=>∃ p y,H p=none/\x=.ref p/\H'=upd H p (.tup [.int i,y])/\∀ xs,SqL K H a xs->xs[i]?=some y,λi H=>∃ xs,SqL K H a xs/\xs.length<=i⟩
theorem QZ{P:Program}{w:World}{K:Frag}{elts:List Expr}{x1:Nat}{pos:Pos}(a e it:Addr)(hei:e≠it) :
  Turn P w K (.Tuple elts x1 pos) (Ite K a) [e,it] e (λi h=>(∃ old,IsEnum h e it (i:Int) old)/\h.IsListIter it a i) where
 mem:=by simp
 obj:=λi h st b hb=>by
  obtain⟨⟨old,he⟩,o,ho,c,d⟩:=st;rcases ZaA.mp hb with z|z
  ·subst z;exact⟨_,he,λv q=>by cases q⟩
  ·have z:b=it:=by simpa using z
   subst z;exact⟨o,ho,λv q=>by rw[d] at q;cases q⟩
 keep:=λi h h' st k=>by
  obtain⟨⟨old,he⟩,hit⟩:=st;exact⟨⟨old,k e (by simp) _ he⟩,hit.at λo q=>k it (by simp) o q⟩
 item:=by
  intro X hP hw hK hc i pins s O H E I hf st hg;subst hP hw hK;obtain⟨xs,x,hq,hx⟩:=hg;obtain⟨its,rv,p,hz⟩:=I.list hq;obtain⟨u,hu,ru⟩:=rv.get hx;obtain⟨⟨old,he⟩,hit⟩:=st;have hl:=p.isList;have hai:a≠it:=by
   rintro rfl;obtain⟨o1,e1,c1,_⟩:=hl;obtain⟨o2,e2,c2,_⟩:=hit;rw[e1] at e2;cases e2;rw[c1] at c2;exact absurd c2 (by decide)
  have hae:a≠e:=by
   rintro rfl;obtain⟨o1,e1,c1,_⟩:=hl;rw[he] at e1;cases e1;exact absurd (show Value.type "enumerate"=Value.type "list" from c1) (by decide)
  have D:=Draws.list (prog:=X.prog) (w:=X.w) (A:=X.A.in1) (I.ok.hd hc) it a hai its.toArray;have hlt:i<its.toArray.size:=by
   have:=(Zac.mp hu).1;simpa using this
  refine wpAny_pyNext_enum_itemD D he ⟨hit,hl⟩ hlt hei (by simp[hei,Zbj hae]) λv h1 tk hP ho hst hT hsz hk=>?_
  have ev:v=u:=by
   have hP':its.toArray[i]?=some v:=hP;rw[Zbg,hu] at hP';exact(Zaf hP').symm
  subst ev;refine⟨_,rfl,wpAny_letOwnedTupleGo_enum ho λh2 he2 hs2=>?_⟩;have elt:e<s.heap.objs.size:=Zat he;have hT2:h2.get? s.heap.objs.size=some { cls:=.type "tuple",data:=.seq #[.int i tk,v] }:=(hs2.2 _ (Zb5 elt)).trans hT;refine⟨.ref s.heap.objs.size,upd H s.heap.objs.size (.tup [.int i,x]),I.sZ (ch:=[e,it]) (λb o hb q=>?_) hf (Zal _) ⟨by show 2<=sizeLine;decide,[.int i tk,v],.cons ⟨tk,rfl⟩ (.cons ru .nil),gA.mk hT2⟩,rfl,⟨_,x,I.hok.fresh (Zal _),rfl,rfl,λys hy=>by rw[I.qW hy hq];exact hx⟩,⟨⟨v,by simpa using he2⟩,?_⟩,λb hb=>?_⟩
  ·have h1':b≠e:=λz=>hb (by simp[z])
   have h2':b≠it:=λz=>hb (by simp[z])
   exact(hs2.2 b h1').trans (hk b o h1' h2' q)
  ·exact hst.1.at λo q=>(hs2.2 it (Zbj hei)).trans q
  ·rw[aL ?_]
   ·exact(hf b hb).1
   ·rcases ZaA.mp hb with z|z
    ·rw[z];exact ZaE elt
    ·have z:b=it:=by simpa using z
     rw[z];obtain⟨o2,e2,_⟩:=hit;exact ZaE (Zat e2)
 done:=by
  intro X hP hw hK hc i pins s O H E I hf st hg;subst hP hw hK;obtain⟨xs,hq,hx⟩:=hg;obtain⟨its,rv,p,hz⟩:=I.list hq;obtain⟨⟨old,he⟩,hit⟩:=st;have hl:=p.isList;have ln:=rv.length;refine wpAny_pyNext_enum_end (I.ok.hd hc) he hit hl (by rw[Zbg];exact ZbP.mpr (by omega)) λh1 eb=>⟨rfl,?_⟩
  exact I.sY (t':=s.toks) (ch:=[e,it]) (λb o hb q=>eb b o (λz=>hb (by simp[z])) q) hf
 self:=λA i s Q E st h=>by
  obtain⟨⟨old,he⟩,_⟩:=st;exact wpAny_pyIter_enum he h
def Xw(K:Frag)(ta:TA):TI:=λO H R=>ta O H λvs H1=>∃ a,vs=[.ref a]/\(∃ xs,SqL K H1 a xs)/\R (Ite K a) H1
theorem Ad{X:Cx}{l:Expr}{ta:TA}{elts:List Expr}{x1:Nat}{tpos p pos:Pos}(hg:Gl X "enumerate")(hm:X.mg "enumerate"=none)(ha:PA X [l] ta)(hs:starEach [l] X.env=[(false,eval l X.env)]:=by rfl) :
  PI X (.Tuple elts x1 tpos) (.Call (.Name "enumerate" p) [l] [] pos) (Xw X.K ta):=by
 intro pins s O H R I h;refine Call_ (uU I hg hm boot_enumerate (Zbo (thn (ha pos pins s O H _ I h) ?_) hs rfl));rintro us s1 ⟨vs,H1,I1,r1,q1⟩;obtain⟨a,e,⟨xs,hq⟩,q⟩:=q1;subst e;cases r1 with
 |cons r rr=>
  cases rr;cases r;obtain⟨its,rv,p,hz⟩:=I1.list hq;refine call_enumerate_list p.isList λh1 he hit hsz hk=>?_;refine wpAny_pyIter_enum he ?_;have I2:Inv X pins O H1 { s1 with heap:=h1 }:=I1.kept (t':=s1.toks) hk;refine⟨s1.heap.objs.size+1,[s1.heap.objs.size+1,s1.heap.objs.size],_,_,H1,rfl,I2,QZ a _ _ (by simp),⟨⟨_,he⟩,hit⟩,λb hb=>?_,q⟩
  rcases ZaA.mp hb with z|z
  ·subst z;exact I1.Ej (ZbO _) (I1.hok.fresh (ZbO _))
  ·have z:b=s1.heap.objs.size:=by simpa using z
   subst z;exact I1.Ej (Zal _) (I1.hok.fresh (Zal _))
section
variable{X:Cx}{b e:Expr}
theorem all_range(bs:List Bool):(List.range bs.length).all (λi=>bs.getD i true)=bs.all id:=by
 rw[Zb6];simp only[ZaP,Zav,id];constructor
 ·intro h x hx;obtain⟨i,hi,rfl⟩:=List.mem_iff_getElem.mp hx;have:=h i hi;simpa[Zao,hi] using this
 ·intro h i hi;have:=h bs[i] (ZbZ hi);simpa[Zao,hi] using this
theorem SM(hc:X.calm=true):mW X (.builtin "all") (λxs H Q=>∃ (p:Addr) (bs:List Bool),xs=[.ref p]/\SqL X.K H p (bs.map V.bl)/\Q (.bl (bs.all id)) H):=by
 intro pins s O H xs us Q I rv h;obtain⟨p,bs,rfl,hq,q⟩:=h;obtain⟨u,rfl,ru⟩:=rv.one;cases ru;obtain⟨its,r,pl,hz⟩:=I.list hq;have ln:=r.length;rw[Zab] at ln;refine call_all_walk (wpAny_pyIter_list pl.isList ?_);have hne:p≠s.heap.objs.size:=by
  obtain⟨o,n,e,_⟩:=pl;exact ZaE (Zat e)
 refine⟨s.heap.objs.size,_,_,_,_,_,λi=>bs.getD i true,rfl,Walks.list (A:=X.A.in1) (I.ok.hd hc) s.heap.objs.size p hne its.toArray,⟨⟨_,Zar _ rfl,rfl,rfl⟩,pl.isList.at λo e=>Zai _ e⟩,?_,λh' tk kk=>?_⟩
 ·intro i v s' Q' E' hP hQ;have hP':its.toArray[i]?=some v:=hP;rw[Zbg] at hP';have hi:i<its.length:=(Zac.mp hP').1;have hb:(bs.map V.bl)[i]?=some (V.bl (bs.getD i true)):=by
   rw[Zad,Zae (by omega)]
   simp[Zao,show i<bs.length by omega]
  obtain⟨u,hu,ru⟩:=r.get hb;rw[hP'] at hu;cases hu;cases ru;exact wpAny_truthy_bool hQ
 ·have en:(List.range its.toArray.size).all (λi=>bs.getD i true)=bs.all id:=by
   rw[List.size_toArray,<-ln];exact all_range bs
  rw[en];refine⟨.bl _,H,?_,rfl,q⟩;refine I.kept λb o e=>kk b o ?_ (Zai _ e);simp;exact ZaE (Zat e)
theorem Q0:OpR X (compareOp .LtE) (λx y H Q=>∃ i j,x=.str i/\y=.str j/\Q (.bl (!(decide (j.cps.toList<i.cps.toList)))) H):=by
 intro pins s O H x y v u Q I rx ry h;obtain⟨i,j,rfl,rfl,q⟩:=h;obtain⟨t,rfl⟩:=rx;obtain⟨t',rfl⟩:=ry;exact PySem.P.le_str (GP I q rfl)
end
structure bh(K:Frag)(mg:Str->Option Value)(x:Str)(st:Stmt)(ps:List Str):Prop where
 ex:∃ (f:Addr) (fd:FuncData),mg x=some (.ref f)/\Fun K x x st f fd/\Binds K fd ps []
def FnAt(P:Program)(w:World)(K:Frag)(mg:Str->Option Value)(base:Heap)(x:Str)(k:Nat)(ps:List Str)(sp:Sp):Prop:=
 ∃ (f:Addr) (fd:FuncData),mg x=some (.ref f)/\keepIn K (.ref f)=true/\Binds K fd ps []/\Ek P w K mg base CX0 k f fd ps sp
theorem bh.ok{P:Program}{w:World}{K:Frag}{mg:Str->Option Value}{base:Heap}{x:Str}{st:Stmt}{ps N:List Str}{k:Nat}{sp:Sp}(D:bh K mg x st ps)(S:bu N ps (aG st))(len:∀ vs H Q E,sp vs H Q E->vs.length=ps.length)
  (hbody:∀ (f:Addr) (cdv:Value) (A:Around) (outer:List Env) (s:Shared) (H:Hp) (vs:List V) (Q:VK) (E:XK),gr k (A.deeper (envOfC x (aG st) s.heap.objs.size f cdv))->sp vs H Q E ->
   ∃ t,PSs (Mq CX0 P w K mg base N x (aG st) f cdv A outer s H E).nox (bw st) t/\t { nx:=λ_ H'=>Q .non H',rt:=Q } (start N vs) H):FnAt P w K mg base x (k+1) ps sp:=by
 obtain⟨f,fd,e,F,b⟩:=D.ex;exact⟨f,fd,e,F.kp,b,F.ok S len λcdv A outer s H vs Q E=>hbody f cdv A outer s H vs Q E⟩
section
variable{X:Cx}{k:Nat}{ps:List Str}{sp:Sp}{x:Str}{p pos:Pos}{e:Expr}{es:List Expr}{t:TA}
theorem aQ(G:FnAt X.prog X.w X.K X.mg X.base x k ps sp)(hr:gr k X.A)(hg:Gl X x)(ha:PA X (e::es) t)(hdb:(x==("__debug__":Str))=false:=by decide)
  (he:starEach (e::es) X.env=(false,eval e X.env)::starEach es X.env:=by rfl)(hpl:(backTo pos (starEach es X.env)).any (·.1)=false:=by rfl):PE X (.Call (.Name x p) (e::es) [] pos) (wj sp [] E0 t):=by
 obtain⟨f,fd,e1,e2,e3,e4⟩:=G;exact V5 e4 hr hg e1 e2 e3 .nil Z8 ha hdb he hpl
end
section
variable{X:Cx}{N:List Str}{scope:Scope}{cl:List (Str×Addr)}{C:Addr}{s2:Shared}{H2:Hp}{fp:List Addr}{x:Str}{pos:Pos}
theorem pvl(i:Nat)(hN:N[i]?=some x:=by rfl)(hv:scope.names.lookup x=some .local:=by rfl)(hd:(x==("__debug__":Str))=false:=by decide)(hcd:(x==("__classdict__":Str))=false:=by decide) :
  PE (X.comp N scope cl C s2 H2 fp) (.Name x pos) (mj i):=Ma hN (.inl (my (by decide) hv)) hd hcd
theorem pvf(i:Nat)(hN:N[i]?=some x:=by rfl)(hv:scope.names.lookup x=some .free:=by rfl)(hd:(x==("__debug__":Str))=false:=by decide)(hcd:(x==("__classdict__":Str))=false:=by decide) :
  PE (X.comp N scope cl C s2 H2 fp) (.Name x pos) (mj i):=Ma hN (.inr (wy hv)) hd hcd
theorem glc(h:scope.names.lookup x=some .globalImplicit):Gl (X.comp N scope cl C s2 H2 fp) x:=my (by decide) h
theorem b8{i:Nat}(hN:N.Nodup)(hi:N[i]?=some x)(hx:scope.names.lookup x=some .local):PG (X.comp N scope cl C s2 H2 fp) (.Name x pos) (zj i):=
 cX hN hi (.inl (my (by decide) hx)) (.inr (my (by decide) hx))
end
section
variable{X:Cx}{x:Str}{z:Str}{pos:Pos}
theorem qL(hg:Gl X x)(h:∃ t,X.mg x=some (.str z t))(hd:(x==("__debug__":Str))=false:=by decide):PE X (.Name x pos) (tC (.str z)):=by
 obtain⟨t,h⟩:=h;exact V0 hg h ⟨t,rfl⟩ hd
theorem Bg{n:String}(hg:Gl X x)(hm:X.mg x=none)(hv:bootBuiltins x=some (.type n))(hn:x≠"__name__":=by decide)(hd:(x==("__debug__":Str))=false:=by decide):PE X (.Name x pos) (tC (.ty n)):=
 V1 hg hm hv rfl hn hd
end
theorem tyL{K:Frag}{H:Hp}{p:Addr}{xs:List V}(h:H p=some (.lst xs)):tyV K "list" (.ref p) H:=.inl ⟨rfl,xs,SqL.of h⟩
theorem fj{H:Hp}{p:Addr}{o:HO}(h:H p=none):aU H (upd H p o):=λb u e=>by rw[aL (cj e h)];exact e
theorem Fx{H H1:Hp}{p:Addr}{o:HO}(h:H p=none)(s:aU H H1):aU H (upd H1 p o):=λb u e=>by rw[aL (cj e h)];exact s b u e
theorem aU.tup{K:Frag}{H H':Hp}{a:Addr}{xs:List V}(e:aU H H')(h:SqT K H a xs):SqT K H' a xs:=by
 rcases h with(h|⟨o,h⟩)|h
 ·exact .inl (.inl (e _ _ h))
 ·exact .inl (.inr ⟨o,e _ _ h⟩)
 ·exact .inr h
theorem SN{α:Type}{xs:List α}{i:Int}(h0:0<=i)(h:i<xs.length):∃ v,atI xs i=some v/\xs[i.toNat]?=some v:=by
 have hl:i.toNat<xs.length:=by lia
 refine⟨xs[i.toNat],?_,by simp[hl]⟩
 have:=qb (xs:=xs) (j:=i.toNat) (v:=xs[i.toNat]) (by simp[hl])
 rwa [Zbx h0] at this
theorem SQ{K:Frag}{T:String}:PySem.W.kitOne K (.type T) (.type T)=some true:=by
 unfold PySem.W.kitOne;rw[Zan (by simp)]
def aaL(J:It)(g:TG)(tb:TS)(D:Ends)(O:St)(H:Hp):Prop:=∃ W:Nat->Nat->St->Hp->Prop,(∃ m,W 0 m O H)/\∀ i m O H,W i m O H ->
 (J.stop i H/\D.nx O H)\/(J.go i H/\∃ N:St->Hp->Prop,(∀ O' H',N O' H'->∃ m',m'<m/\W (i+1) m' O' H')/\∀ x H',J.yld i H x H'->g x O H' λσ2 H2=>tb { D with nx:=N,ct:=N,bk:=D.nx } σ2 H2)
theorem YK{n:Nat}{i:Int}(h0:0<=i)(h:i<n):ixN n i=some i.toNat:=by
 unfold ixN;rw[Zan h0,Zan h]
def SameBut(p:Addr)(H H':Hp):Prop:=∀ b o,H b=some o->b≠p->H' b=some o
section
variable{X:Cx}{N:List Str}{scope:Scope}{cl:List (Str×Addr)}{C:Addr}{s2:Shared}{H2:Hp}{fp:List Addr}
theorem wz{es:List Expr}{k:Nat}{t:TGs}{n:Nat}{pos:Pos}(hc:X.calm=true)(h:PGs (X.comp N scope cl C s2 H2 fp) es t)
  (hn:(assignEach es (X.comp N scope cl C s2 H2 fp).env).length=n:=by rfl)(hst:(assignEach es (X.comp N scope cl C s2 H2 fp).env).findIdx? (·.1)=none:=by rfl):PG (X.comp N scope cl C s2 H2 fp) (.Tuple es k pos) (Yr X.K n t):=GK hc h hn hst
end
theorem pD{α β:Type}(f:α->β)(xs:List α):∀ js:List Nat,(js.filterMap ((xs.map f)[·]?)).length=(js.filterMap (xs[·]?)).length
 |[]=>rfl
 |j::js=>by
  cases e:xs[j]? with
  |none=>
   have e':(xs.map f)[j]?=none:=by rw[Zad,e];rfl
   rw[List.filterMap_cons_none e,List.filterMap_cons_none e',pD f xs js]
  |some v=>
   have e':(xs.map f)[j]?=some (f v):=by rw[Zad,e];rfl
   rw[List.filterMap_cons_some e,List.filterMap_cons_some e',ZaQ,ZaQ,pD f xs js]
section
theorem wA{xs:List V}{its:List Value}(r:Vals xs its){j:Nat}(h:j<its.toArray.size):∃ x,xs[j]?=some x/\RelV x its.toArray[j]:=by
 have hl:j<its.length:=by simpa using h
 have hx:j<xs.length:=by rw[r.length];exact hl
 obtain⟨u,hu,ru⟩:=r.get (i:=j) (x:=xs[j]) (by simp[hx])
 refine⟨xs[j],by simp[hx],?_⟩
 have:its.toArray[j]=u:=by
  rw[Zae hl] at hu;simpa using hu
 rw[this];exact ru
end
section
variable{k:Nat}
theorem Mw{A:Around}(hr:gr k A):A.units+32<cLine:=Zbr (Nat.add_le_add_left (by decide:32<=64) _) hr.units
end
def Hd(H:Hp)(xs:List V)(ps:List (Int×Int)):Prop:=xs.length=ps.length/\∀ (j:Nat) (c:Int×Int),ps[j]?=some c->∃ a,xs[j]?=some (.ref a)/\H a=some (.tup [.int c.1,.int c.2])
section
variable{κ:Type}[DecidableEq κ]
def lz(kvs:List (κ×V))(k:κ):Option V:=(kvs.find? λkv=>decide (kv.1=k)).map (·.2)
def putK(kvs:List (κ×V))(k:κ)(v:V):List (κ×V):=
 if(kvs.any λkv=>decide (kv.1=k))=true then kvs.map (λkv=>if kv.1=k then(kv.1,v) else kv) else kvs++[(k,v)]
theorem q9{p:κ×V}{r:List (κ×V)}{k:κ}(e:p.1=k):lz (p::r) k=some p.2:=by simp[lz,Zb7,e]
theorem mY{p:κ×V}{r:List (κ×V)}{k:κ}(e:¬p.1=k):lz (p::r) k=lz r k:=by simp[lz,Zb7,e]
theorem Bh(k:κ):∀ kvs:List (κ×V),(kvs.any λkv=>decide (kv.1=k))=(lz kvs k).isSome
 |[]=>rfl
 |p::r=>by
  rw[Zb8];by_cases e:p.1=k
  ·simp only[q9 e,ZaF e,Bool.true_or,ZbM]
  ·rw[mY e,ZaM e,Bool.false_or];exact Bh k r
theorem j9(kvs:List (κ×V))(k:κ)(v:V):(putK kvs k v).length<=kvs.length+1:=by
 unfold putK;split
 ·rw[Zab];omega
 ·rw[ZaC,ZaQ,Zcq];omega
theorem SX{kvs:List (κ×V)}{k:κ}(v:V)(h:lz kvs k=none):putK kvs k v=kvs++[(k,v)]:=by
 unfold putK;rw[Bh,h];exact Zam (by decide)
theorem zR.pF{o:Option V}{u:Option Value}(r:zR o u):o.isSome=u.isSome:=by
 cases o with
 |none=>cases u with
  |none=>rfl
  |some _=>exact(show False from r).elim
 |some _=>cases u with
  |none=>exact(show False from r).elim
  |some _=>rfl
theorem zR.getD{o:Option V}{u:Option Value}{d:V}{d':Value}(r:zR o u)(rd:RelV d d'):RelV (o.getD d) (u.getD d'):=by
 cases o with
 |none=>cases u with
  |none=>exact rd
  |some _=>exact(show False from r).elim
 |some _=>cases u with
  |none=>exact(show False from r).elim
  |some _=>exact r
theorem KV.val{kvs:List (κ×V)}{vs:List (κ×Value)}(r:KV kvs vs)(k:κ):zR (lz kvs k) (valueAt vs k):=by
 unfold KV at r;induction r with
 |nil=>exact True.intro
 |@cons p q ps qs h t ih=>
  obtain⟨h1,h2⟩:=h;by_cases e:p.1=k
  ·have e':q.1=k:=h1.symm.trans e;have b:valueAt (q::qs) k=some q.2:=by simp[valueAt,Zb7,e']
   rw[q9 e,b];exact h2
  ·have e':¬q.1=k:=λz=>e (h1.trans z);have b:valueAt (q::qs) k=valueAt qs k:=by simp[valueAt,Zb7,e']
   rw[mY e,b];exact ih
theorem KV.any{kvs:List (κ×V)}{vs:List (κ×Value)}(r:KV kvs vs)(k:κ):(kvs.any λkv=>decide (kv.1=k))=vs.any λkv=>decide (kv.1=k):=by
 unfold KV at r;induction r with
 |nil=>rfl
 |cons h t ih=>rw[Zb8,Zb8,ih,h.1]
theorem KV.repl{kvs:List (κ×V)}{vs:List (κ×Value)}(r:KV kvs vs)(k:κ){y:V}{u:Value}(ry:RelV y u) :
  KV (kvs.map λkv=>if kv.1=k then(kv.1,y) else kv) (vs.map λkv=>if kv.1=k then(kv.1,u) else kv):=by
 unfold KV at r ⊢;induction r with
 |nil=>exact .nil
 |@cons p q ps qs h t ih=>
  rw[Zap,Zap];refine .cons ?_ ih;obtain⟨h1,h2⟩:=h;by_cases e:p.1=k
  ·rw[Zan e,Zan (h1.symm.trans e)];exact⟨h1,ry⟩
  ·rw[Zam e,Zam (λz=>e (h1.trans z))];exact⟨h1,h2⟩
theorem KV.put{kvs:List (κ×V)}{vs:List (κ×Value)}(r:KV kvs vs)(k:κ){y:V}{u:Value}(ry:RelV y u):KV (putK kvs k y) (stored vs k u):=by
 unfold putK stored;rw[r.any k];by_cases e:(vs.any λkv=>decide (kv.1=k))=true
 ·rw[Zan e,Zan e];exact r.repl k ry
 ·rw[Zam e,Zam e];exact Paired.snoc r ⟨rfl,ry⟩
theorem KV.keys{kvs:List (κ×V)}{vs:List (κ×Value)}(r:KV kvs vs):kvs.map (·.1)=vs.map (·.1):=by
 unfold KV at r;induction r with
 |nil=>rfl
 |cons h t ih=>rw[Zap,Zap,ih,h.1]
theorem KV.length{kvs:List (κ×V)}{vs:List (κ×Value)}(r:KV kvs vs):kvs.length=vs.length:=ZcC r
end
theorem zp{P:Program}{w:World}{k:Key}{u:Value}(r:RelV (kV k) u):(bV P w).is k u=true:=by
 cases k with
 |inl i=>obtain⟨t,e⟩:=(show ∃ t,u=Value.int i t from r);subst e;exact Jf P w i t
 |inr x=>obtain⟨t,e⟩:=(show ∃ t,u=Value.str x t from r);subst e;exact Jg P w x t
theorem Fy{P:Program}{w:World}:∀ {ks:List Key}{us:List Value},Vals (ks.map kV) us->ItemsAre (bV P w) ks us
 |[],_,r=>by rw[Zcw] at r;cases r;exact .nil
 |k::ks,_,r=>by
  rw[Zap] at r;cases r with
  |cons h t=>exact .cons (zp h) (Fy t)
noncomputable abbrev KT(H:Hp):List (List Key×V)->List (List Key×Addr×Value)->Prop:=Paired λp q=>p.1=q.1/\H q.2.1=some (.tup (p.1.map kV))/\RelV p.2 q.2.2
theorem KT.val{H:Hp}{kvs:List (List Key×V)}{xs:List (List Key×Addr×Value)}(r:KT H kvs xs)(k:List Key):zR (lz kvs k) ((atKey xs k).map (·.2)):=by
 induction r with
 |nil=>exact True.intro
 |@cons p q ps qs h t ih=>
  obtain⟨h1,_,h2⟩:=h;by_cases e:p.1=k
  ·have e':q.1=k:=h1.symm.trans e;have b:atKey (q::qs) k=some q.2:=by simp[atKey,Zb7,e']
   rw[q9 e,b];exact h2
  ·have e':¬q.1=k:=λz=>e (h1.trans z);have b:atKey (q::qs) k=atKey qs k:=by simp[atKey,Zb7,e']
   rw[mY e,b];exact ih
theorem KT.repl{H:Hp}{kvs:List (List Key×V)}{xs:List (List Key×Addr×Value)}(r:KT H kvs xs)(k:List Key){y:V}{u:Value}(ry:RelV y u) :
  KT H (kvs.map λkv=>if kv.1=k then(kv.1,y) else kv) (xs.map (putAt k u)):=by
 induction r with
 |nil=>exact .nil
 |@cons p q ps qs h t ih=>
  rw[Zap,Zap];refine .cons ?_ ih;obtain⟨h1,h2,h3⟩:=h;unfold putAt;by_cases e:p.1=k
  ·rw[Zan e,Zan (h1.symm.trans e)];exact⟨h1,h2,ry⟩
  ·rw[Zam e,Zam (λz=>e (h1.trans z))];exact⟨h1,h2,h3⟩
theorem KT.put{H:Hp}{kvs:List (List Key×V)}{xs:List (List Key×Addr×Value)}(r:KT H kvs xs)(k:List Key){b:Addr}{y:V}{u:Value}(hb:H b=some (.tup (k.map kV)))(ry:RelV y u) :
  KT H (putK kvs k y) (storedH xs k b u):=by
 have e:(kvs.any λkv=>decide (kv.1=k))=(atKey xs k).isSome:=by
  rw[Bh,(r.val k).pF,ZcS]
 unfold putK storedH;rw[e];by_cases q:(atKey xs k).isSome=true
 ·rw[Zan q,Zan q];exact r.repl k ry
 ·rw[Zam q,Zam q];exact Paired.snoc r ⟨rfl,hb,ry⟩
theorem KT.keeps{H H':Hp}{kvs:List (List Key×V)}{xs:List (List Key×Addr×Value)}(r:KT H kvs xs)(ht:∀ b ys,H b=some (.tup ys)->H' b=some (.tup ys)):KT H' kvs xs:=
 Paired.Yn r λ_ _ z=>⟨z.1,ht _ _ z.2.1,z.2.2⟩
section
variable{P:Program}{w:World}{H:Hp}{h:Heap}{a:Addr}
theorem Xx{u:HO}(ok:HOk P w H h)(e:Rd H a u):dB P w H h a u:=e.ok ok
theorem wB{kvs:List (Key×V)}(ok:HOk P w H h)(e:Rd H a (.dK kvs)):kvs.length<=sizeLine/\(a==sysModules)=false/\∃ vs,KV kvs vs/\h.DictOf (bV P w) a vs:=
 show dB P w H h a (.dK kvs) from Xx ok e
theorem Xy{kvs:List (Key×V)}(ok:HOk P w H h)(e:H a=some (.dK kvs)):kvs.length<=sizeLine/\(a==sysModules)=false/\∃ vs,KV kvs vs/\h.DictOf (bV P w) a vs:=wB ok (.inl e)
theorem qe{ks:List Key}(ok:HOk P w H h)(e:H a=some (.tup (ks.map kV))):(tupleKind (bV P w)).is h ks a:=by
 obtain⟨_,its,r,⟨o,h1,h2,n,h3⟩,_⟩:=(show dB P w H h a (.tup (ks.map kV)) from ok a _ e);exact⟨o,its.toArray,n,h1,h2,h3,by simpa using Fy r⟩
theorem wC{kvs:List (List Key×V)}(ok:HOk P w H h)(e:Rd H a (.dT kvs)):kvs.length<=sizeLine/\(a==sysModules)=false /\
  ∃ xs,KT H kvs xs/\h.DictOfH (tupleKind (bV P w)) a xs:=by
 obtain⟨z,y,xs,r,o,es,ep,h1,h2,h3,h4,h5⟩:=(show dB P w H h a (.dT kvs) from Xx ok e);refine⟨z,y,xs,r,o,es,ep,h1,h2,h3,h4,λx hx=>?_,h5⟩;have all:∀ {l:List (List Key×V)}{m:List (List Key×Addr×Value)},KT H l m->∀ x∈m,(tupleKind (bV P w)).is h x.1 x.2.1:=by
  intro l m q;induction q with
  |nil=>intro x hx;exact nomatch hx
  |@cons p q ps qs hq t ih=>
   intro x hx;rcases ZaA.mp hx with e|hx
   ·subst e;exact qe ok (by rw[<-hq.1];exact hq.2.1)
   ·exact ih x hx
 exact all r x hx
theorem S5{kvs:List (List Key×V)}(ok:HOk P w H h)(e:H a=some (.dT kvs)):kvs.length<=sizeLine/\(a==sysModules)=false /\
  ∃ xs,KT H kvs xs/\h.DictOfH (tupleKind (bV P w)) a xs:=wC ok (.inl e)
end
def uf(H:Hp)(a:Addr)(y:V)(r:Option V):Prop:=
 (∃ kvs k,Rd H a (.dK kvs)/\y=kV k/\r=lz kvs k)\/∃ kvs k b,Rd H a (.dT kvs)/\y=.ref b/\H b=some (.tup (k.map kV))/\r=lz kvs k
def wD(H:Hp)(a:Addr)(y v:V)(H':Hp):Prop:=
 (∃ kvs k,H a=some (.dK kvs)/\y=kV k/\kvs.length<sizeLine/\H'=upd H a (.dK (putK kvs k v))) \/
 ∃ kvs k b,H a=some (.dT kvs)/\y=.ref b/\H b=some (.tup (k.map kV))/\kvs.length<sizeLine/\H'=upd H a (.dT (putK kvs k v))
theorem wD.k{H:Hp}{a:Addr}{kvs:List (Key×V)}{k:Key}{v:V}(e:H a=some (.dK kvs))(hl:kvs.length<sizeLine):wD H a (kV k) v (upd H a (.dK (putK kvs k v))):=.inl ⟨kvs,k,e,rfl,hl,rfl⟩
theorem wD.t{H:Hp}{a b:Addr}{kvs:List (List Key×V)}{k:List Key}{v:V}(e:H a=some (.dT kvs))(eb:H b=some (.tup (k.map kV)))(hl:kvs.length<sizeLine) :
  wD H a (.ref b) v (upd H a (.dT (putK kvs k v))):=.inr ⟨kvs,k,b,e,rfl,eb,hl,rfl⟩
section
variable{X:Cx}{pins:List (Addr×Obj)}{O:St}{H:Hp}{s:Shared}{a:Addr}{y v:V}{u r:Value}{o:Option V}{A:Around}{E:Value->Shared->Prop}
theorem Inv.big(I:Inv X pins O H s):sysModules<s.heap.objs.size:=by
 have h:mainGlobals<s.heap.objs.size:=(I.mod.glob.keeps I.bk).lt;exact Nat.lt_trans (by decide) h
theorem Q3{Q:Value->Shared->Prop}(hu:A.units+1<cLine)(I:Inv X pins O H s)(g:uf H a y (some v))(ry:RelV y u)(h:∀ w' s',Inv X pins O H s'->RelV v w'->Q w' s') :
  wpAny (model X.prog X.w) A (getItem (.ref a) u) Q E s:=by
 rcases g with⟨kvs,k,e,ey,l⟩|⟨kvs,k,b,e,ey,eb,l⟩
 ·subst ey;obtain⟨z,hd,vs,rel,dd⟩:=wB I.hok e;obtain⟨w',hw,rw'⟩:=zR.some_of (v:=v) (o:=valueAt vs k) (by rw[l];exact rel.val k)
  exact wpAny_getItem_of (zp ry) dd.mapOf hw (h w' _ (I.tok _) rw')
 ·subst ey;cases (show u=Value.ref b from ry);obtain⟨z,hd,xs,rel,dd⟩:=wC I.hok e;obtain⟨w',hw,rw'⟩:=zR.some_of (v:=v) (o:=(atKey xs k).map (·.2)) (by rw[l];exact rel.val k)
  obtain⟨p,hp,hp2⟩:=Zbl.mp hw;refine wpAny_getItem_heap (tupleKind_room_in1 hu) (qe I.hok eb) dd hp ?_;rw[hp2];exact h w' _ (I.tok _) rw'
theorem aaM{Q:Value->Shared->Prop}(hu:A.units+1<cLine)(I:Inv X pins O H s)(g:uf H a y o)(ry:RelV y u)(h:∀ s',Inv X pins O H s'->Q (.bool o.isSome) s') :
  wpAny (model X.prog X.w) A (compareOp .In u (.ref a)) Q E s:=by
 rcases g with⟨kvs,k,e,ey,l⟩|⟨kvs,k,b,e,ey,eb,l⟩
 ·subst ey;obtain⟨z,hd,vs,rel,dd⟩:=wB I.hok e;refine wpAny_in_of (zp ry) hd dd.mapOf ?_;rw[<-(rel.val k).pF,<-l];exact h _ (I.tok _)
 ·subst ey;cases (show u=Value.ref b from ry);obtain⟨z,hd,xs,rel,dd⟩:=wC I.hok e;refine wpAny_in_heap (tupleKind_room_in1 hu) (qe I.hok eb) hd dd ?_;have q:=(rel.val k).pF;rw[ZcS] at q;rw[<-q,<-l];exact h _ (I.tok _)
theorem Wf{Q:Value->Shared->Prop}(hu:A.units+1<cLine)(I:Inv X pins O H s)(g:uf H a y o)(ry:RelV y u)(h:∀ s',Inv X pins O H s'->Q (.bool (!o.isSome)) s') :
  wpAny (model X.prog X.w) A (compareOp .NotIn u (.ref a)) Q E s:=by
 rcases g with⟨kvs,k,e,ey,l⟩|⟨kvs,k,b,e,ey,eb,l⟩
 ·subst ey;obtain⟨z,hd,vs,rel,dd⟩:=wB I.hok e;refine wpAny_notIn_of (zp ry) hd dd.mapOf ?_;rw[<-(rel.val k).pF,<-l];exact h _ (I.tok _)
 ·subst ey;cases (show u=Value.ref b from ry);obtain⟨z,hd,xs,rel,dd⟩:=wC I.hok e;refine wpAny_notIn_heap (tupleKind_room_in1 hu) (qe I.hok eb) hd dd ?_;have q:=(rel.val k).pF;rw[ZcS] at q;rw[<-q,<-l];exact h _ (I.tok _)
theorem wF{h':Heap}{t':Nat}{ob:HO}(I:Inv X pins O H s)(mu:Mut (H a))(hs:Heap.SameBut a s.heap h')(he:∃ q,h'.get? a=some q)(new:dB X.prog X.w (upd H a ob) h' a ob) :
  Inv X pins O (upd H a ob) { s with heap:=h',toks:=t' }:=
 I.write (x:=a) (e:=a) mu (.inl rfl) (λb q hb z=>(hs.2 b hb).trans z) he new
theorem S6{P:Program}{w:World}{H':Hp}{h':Heap}{kvs:List (Key×V)}{vs:List (Key×Value)}(z:kvs.length<=sizeLine)(hd:(a==sysModules)=false)(rel:KV kvs vs)(dd:h'.DictOf (bV P w) a vs) :
  dB P w H' h' a (.dK kvs):=⟨z,hd,vs,rel,dd⟩
theorem Q4{H':Hp}{Q:Unit->Shared->Prop}(hu:A.units+1<cLine)(I:Inv X pins O H s)(g:wD H a y v H')(ry:RelV y u)(rv:RelV v r)(h:∀ s',Inv X pins O H' s'->Q () s') :
  wpAny (model X.prog X.w) A (setItem (.ref a) u r) Q E s:=by
 rcases g with⟨kvs,k,e,ey,l,eH⟩|⟨kvs,k,b,e,ey,eb,l,eH⟩
 ·subst ey eH;obtain⟨z,hd,vs,rel,dd⟩:=Xy I.hok e;have hz:vs.length<=sizeLine:=by rw[<-rel.length];exact z
  have hl:(putK kvs k v).length<=sizeLine:=by have:=j9 kvs k v;lia
  refine wpAny_setItem_pairs (hsz:=hz) (zp ry) dd λh' dd' hs=>h _ ?_;have he:∃ q,h'.get? a=some q:=let⟨q,_,_,hq,_⟩:=dd';⟨q,hq⟩;exact wF I (by rw[e];exact True.intro) hs he (S6 hl hd (rel.put k rv) dd')
 ·subst ey eH;cases (show u=Value.ref b from ry);obtain⟨z,hd,xs,rel,dd⟩:=S5 I.hok e;have hz:xs.length<=sizeLine:=by rw[<-ZcC rel];exact z
  have hl:(putK kvs k v).length<=sizeLine:=by have:=j9 kvs k v;lia
  refine wpAny_setItem_heap (hsz:=hz) (tupleKind_room_in1 hu) (qe I.hok eb) dd λh' dd' hs=>h _ ?_;obtain⟨q,es,ep,hq,h2,h3,h4,_,h5⟩:=dd';refine wF I (by rw[e];exact True.intro) hs ⟨q,hq⟩ ⟨hl,hd,_,(rel.put k eb rv).keeps λc ys ec=>?_,q,es,ep,hq,h2,h3,h4,h5⟩
  rw[aL (RZ ec e (λz=>nomatch z))];exact ec
end
def YL(i:Expr):Prop:=∀ ov iv,subscripted i false ov iv=operate [ov,iv] (getItem ov iv)
theorem Wg{prog:Program}{w:World}{A:Around}{E:Value->Shared->Prop}{s:Shared}{env:Env}{value slice:Expr}{pos:Pos}{T id:String}{Q:Value->Shared->Prop}
  (hl:typeLookup (.type T) "__getitem__"=pure (some (.builtin id)))(hs:YL slice)
  (h:wpAny (model prog w) A (eval value env) (λo s₁=>wpAny (model prog w) A (eval slice env) (λi s₂=>s₂.TypeIs o T/\wpAny (model prog w) A (getItem o i) Q E s₂) E s₁) E s) :
  wpAny (model prog w) A (eval (.Subscript value slice pos) env) Q E s:=by
 refine Subscript_ (Zbn h (λo s₁ h₁=>Zbn h₁ (λi s₂ h₂=>?_) λ_ _ x=>x) λ_ _ x=>x);obtain⟨hT,h₂⟩:=h₂;unfold subscriptTail;refine Zaa ?_;rw[getitemInPython_of_ne hT.not_modules];refine Zaa (wpAny_specialOf hT hl ?_);have fin:wpAny (model prog w) A (subscripted slice false o i) (λr s₃=>wpAny (model prog w) A (letTemporaryGo value o r>>=λ_=>pure r) Q E s₃) E s₂:=by
  rw[hs o i];exact wpAny_operating (Zbn h₂ (λr s₃ h₃=>Zaa (wpAny_letTemporaryGo (Zaj h₃))) λ_ _ x=>x)
 first
  |exact Zaj (Zaa fin)
  |exact Zaa (Zaj (Zaa fin))
  |exact Zaa fin
theorem Ju{X:Cx}{pins:List (Addr×Obj)}{O:St}{H:Hp}{s:Shared}{a:Addr}{y:V}{o:Option V}(I:Inv X pins O H s)(g:uf H a y o):s.TypeIs (.ref a) "dict":=by
 rcases g with⟨kvs,k,e,_,_⟩|⟨kvs,k,b,e,_,_,_⟩
 ·obtain⟨_,_,vs,_,dd⟩:=wB I.hok e;exact dd.typeIs
 ·obtain⟨_,_,xs,_,dd⟩:=wC I.hok e;exact dd.typeIs
def S7(td ty:TE):TE:=λO H Q=>td O H λx H1=>ty O H1 λy H2=>∃ a v,x=.ref a/\uf H2 a y (some v)/\Q v H2
def S8(td ty tv:TE):TS:=λD O H=>tv O H λv H1=>td O H1 λx H2=>ty O H2 λy H3=>∃ a H4,x=.ref a/\wD H3 a y v H4/\D.nx O H4
section
variable{X:Cx}{o i value:Expr}{pos pos':Pos}{td ty tv:TE}
theorem Wh(hu:X.A.units+1<cLine)(ho:PE X o td)(hi:PE X i ty)(hs:YL i):PE X (.Subscript o i pos) (S7 td ty):=by
 intro pins s O H Q I h;refine Wg PySem.F.slot_dict_getitem.lookup hs (thn (ho pins s O H _ I h) λu s1 ⟨x,H1,I1,rx,q1⟩=>thn (hi pins s1 O H1 _ I1 q1) ?_);rintro iv s2 ⟨y,H2,I2,ry,a,v,ex,g,q2⟩;subst ex;obtain rfl:u=Value.ref a:=rx;exact⟨Ju I2 g,Q3 hu I2 g ry λw' s3 I3 rw'=>⟨v,H2,I3,rw',q2⟩⟩
theorem gZ(hu:X.A.units+1<cLine)(ho:PE X o td)(hi:PE X i ty)(hv:PE X value tv)(hs:swapsWith value (some (.Subscript o i pos')) pos.line X.env=pure false) :
  PS X (.Assign [.Subscript o i pos'] value pos) (S8 td ty tv):=by
 intro pins s O H D I h;refine wpAny_Assign_Subscript (thn (hv pins s O H _ I h) λr s1 ⟨v,H1,I1,rv,q1⟩=>thn (ho pins s1 O H1 _ I1 q1) λu s2 ⟨x,H2,I2,rx,q2⟩=>thn (hi pins s2 O H2 _ I2 q2) ?_) hs;rintro iv s3 ⟨y,H3,I3,ry,a,H4,ex,g,q3⟩;subst ex;obtain rfl:u=Value.ref a:=rx;exact Q4 hu I3 g ry rv λs4 I4=>⟨O,H4,I4,q3⟩
end
theorem Jv{P:Program}{w:World}{H:Hp}(h:Heap)(hb:sysModules<h.objs.size):dB P w H (h.push { cls:=.type "dict",data:=.dict #[] }) h.objs.size (.dK []):=
 ⟨Za7 _,beq_eq_false_iff_ne.mpr (Zbj (ZaE hb)),[],.nil,Heap.DictOf.new h⟩
theorem Jw{P:Program}{w:World}{H:Hp}(h:Heap)(hb:sysModules<h.objs.size):dB P w H (h.push { cls:=.type "dict",data:=.dict #[] }) h.objs.size (.dT []):=
 ⟨Za7 _,beq_eq_false_iff_ne.mpr (Zbj (ZaE hb)),[],.nil,_,#[],0,Zar _ rfl,⟨rfl,rfl,rfl⟩,rfl,rfl,ZcM⟩
def S9:TE:=λ_ H Q=>∀ p,H p=none->Q (.ref p) (upd H p (.dK []))
def Tc:TE:=λ_ H Q=>∀ p,H p=none->Q (.ref p) (upd H p (.dT []))
section
variable{X:Cx}{pos:Pos}
theorem kh:PE X (.Dict [] [] pos) S9:=λpins s O H Q I h=>
 wpAny_Dict_empty ⟨.ref s.heap.objs.size,_,I.laid (a:=s.heap.objs.size) (o:=.dK []) (t':=s.toks) (λ_ _ q=>Zai _ q) (Zal _) (Jv s.heap I.big),rfl,h _ (I.hok.fresh (Zal _))⟩
theorem rm:PE X (.Dict [] [] pos) Tc:=λpins s O H Q I h=>
 wpAny_Dict_empty ⟨.ref s.heap.objs.size,_,I.laid (a:=s.heap.objs.size) (o:=.dT []) (t':=s.toks) (λ_ _ q=>Zai _ q) (Zal _) (Jw s.heap I.big),rfl,h _ (I.hok.fresh (Zal _))⟩
end
def Td:List (TE×TE)->St->Hp->(List (V×V)->Hp->Prop)->Prop
 |[],_,H,Q=>Q [] H
 |(tk,tv)::r,O,H,Q=>tk O H λx H1=>tv O H1 λy H2=>Td r O H2 λps H3=>Q ((x,y)::ps) H3
noncomputable abbrev VV:List (V×V)->List (Value×Value)->Prop:=Paired λp q=>RelV p.1 q.1/\RelV p.2 q.2
def PPs(X:Cx)(pos:Pos)(keys:List (Option Expr))(values:List Expr)(trs:List (TE×TE)):Prop:=
 ∀ (pins:List (Addr×Obj)) (s:Shared) (O:St) (H:Hp) (Q:List (V×V)->Hp->Prop),Inv X pins O H s->Td trs O H Q ->
  wpAny (model X.prog X.w) X.A (evalPairs (pairTrees keys values X.env pos)) (λvs s'=>∃ ps H',Inv X pins O H' s'/\VV ps vs/\Q ps H') X.xe s
structure M1(X:Cx)(o:Expr)(m:Str)(apos:Pos)(e:Expr)(cpos:Pos):Prop where
 base:attributeBase o m X.env (eval o X.env)=eval o X.env
 few:((backTo cpos (starEach [e] X.env)).all (λx=>!x.1)&&(backToKw cpos (keywordEach [] X.env)).all (λx=>x.1.isSome)
  && decide (([e]:List Expr).length+([]:List Keyword).length+(if([]:List Keyword).isEmpty then 0 else 1)<30))=true
 line:(apos.endLine==cpos.line)=true
 trees:backTo cpos (starEach [e] X.env)=[(false,eval e X.env)]
structure M2(X:Cx)(o:Expr)(m:Str)(apos:Pos)(e f:Expr)(cpos:Pos):Prop where
 base:attributeBase o m X.env (eval o X.env)=eval o X.env
 few:((backTo cpos (starEach [e,f] X.env)).all (λx=>!x.1)&&(backToKw cpos (keywordEach [] X.env)).all (λx=>x.1.isSome)
  && decide (([e,f]:List Expr).length+([]:List Keyword).length+(if([]:List Keyword).isEmpty then 0 else 1)<30))=true
 line:(apos.endLine==cpos.line)=true
 trees:backTo cpos (starEach [e,f] X.env)=[(false,eval e X.env),(false,eval f X.env)]
def IsD(H:Hp)(a:Addr):Prop:=(∃ kvs,Rd H a (.dK kvs))\/∃ kvs,Rd H a (.dT kvs)
theorem Bj{X:Cx}{pins:List (Addr×Obj)}{O:St}{H:Hp}{s:Shared}{a:Addr}(I:Inv X pins O H s)(d:IsD H a) :
  s.TypeIs (.ref a) "dict"/\(∀ b,Value.ref a=.ref b->∃ ob,s.heap.get? b=some ob/\ob.dict=none)/\(a==sysModules)=false:=by
 rcases d with⟨kvs,e⟩|⟨kvs,e⟩
 ·obtain⟨_,hd,vs,_,dd⟩:=wB I.hok e;refine⟨dd.typeIs,λb q=>?_,hd⟩;cases q;obtain⟨ob,_,_,h1,h2,_⟩:=dd;exact⟨ob,h1,h2.2.1⟩
 ·obtain⟨_,hd,xs,_,dd⟩:=wC I.hok e;refine⟨dd.typeIs,λb q=>?_,hd⟩;cases q;obtain⟨ob,_,_,h1,h2,_⟩:=dd;exact⟨ob,h1,h2.2.1⟩
section
variable{X:Cx}{pins:List (Addr×Obj)}{O:St}{H:Hp}{s:Shared}{a:Addr}{y d:V}{u r:Value}{o:Option V}{A:Around}{E:Value->Shared->Prop}
theorem YM{Q:Value->Shared->Prop}(hu:A.units+1<cLine)(I:Inv X pins O H s)(g:uf H a y o)(ry:RelV y u)(h:∀ w' s',Inv X pins O H s'->RelV (o.getD .non) w'->Q w' s') :
  wpAny (model X.prog X.w) A (call (.builtin "dict.get") [.ref a,u]) Q E s:=by
 rcases g with⟨kvs,k,e,ey,l⟩|⟨kvs,k,b,e,ey,eb,l⟩
 ·subst ey;obtain⟨z,hd,vs,rel,dd⟩:=wB I.hok e;refine call_meetsIn ZbA dd.typeIs Zb1 (PySem.F.args_dict_get_2 _ _) (meets_dict_get (bV X.prog X.w) a (zp ry) hd) ⟨_,dd.mapOf,h _ _ (I.tok _) ?_⟩;rw[l];exact(rel.val k).getD rfl
 ·subst ey;cases (show u=Value.ref b from ry);obtain⟨z,hd,xs,rel,dd⟩:=wC I.hok e;refine call_meetsIn ZbA dd.typeIs Zb1 (PySem.F.args_dict_get_2 _ _) (meetsH_dict_get (tupleKind (bV X.prog X.w)) a b hd) ⟨tupleKind_room_in1 hu,k,xs,qe I.hok eb,dd,h _ _ (I.tok _) ?_⟩;rw[l];exact(rel.val k).getD rfl
theorem YQ{Q:Value->Shared->Prop}(hu:A.units+1<cLine)(I:Inv X pins O H s)(g:uf H a y o)(ry:RelV y u)(rd:RelV d r)(h:∀ w' s',Inv X pins O H s'->RelV (o.getD d) w'->Q w' s') :
  wpAny (model X.prog X.w) A (call (.builtin "dict.get") [.ref a,u,r]) Q E s:=by
 rcases g with⟨kvs,k,e,ey,l⟩|⟨kvs,k,b,e,ey,eb,l⟩
 ·subst ey;obtain⟨z,hd,vs,rel,dd⟩:=wB I.hok e;refine call_meetsIn ZbA dd.typeIs Zb1 (PySem.F.args_dict_get_3 _ _ _) (meets_dict_get_default (bV X.prog X.w) a (zp ry) hd r) ⟨_,dd.mapOf,h _ _ (I.tok _) ?_⟩;rw[l];exact(rel.val k).getD rd
 ·subst ey;cases (show u=Value.ref b from ry);obtain⟨z,hd,xs,rel,dd⟩:=wC I.hok e;refine call_meetsIn ZbA dd.typeIs Zb1 (PySem.F.args_dict_get_3 _ _ _) (meetsH_dict_get_default (tupleKind (bV X.prog X.w)) a b hd r) ⟨tupleKind_room_in1 hu,k,xs,qe I.hok eb,dd,h _ _ (I.tok _) ?_⟩;rw[l];exact(rel.val k).getD rd
end
def Mx(td ty:TE):TE:=λO H Q=>td O H λx H1=>∃ a,x=.ref a/\IsD H1 a/\ty O H1 λy H2=>∃ o,uf H2 a y o/\Q (o.getD .non) H2
def My(td ty tx:TE):TE:=λO H Q=>td O H λx H1=>∃ a,x=.ref a/\IsD H1 a/\ty O H1 λy H2=>tx O H2 λz H3=>∃ o,uf H3 a y o/\Q (o.getD z) H3
section
variable{X:Cx}{o e f:Expr}{apos cpos:Pos}{td ty tx:TE}
theorem Te(hu:X.A.units+1<cLine)(ho:PE X o td)(he:PE X e ty)(m:M1 X o "get" apos e cpos):PE X (.Call (.Attribute o "get" apos) [e] [] cpos) (Mx td ty):=by
 intro pins s O H Q I h;refine wpAny_Call_method m.base m.few m.line ZbD ZbA PySem.F.type_dict_get (thn (ho pins s O H _ I h) ?_);rintro u s1 ⟨x,H1,I1,rx,a,ex,d,q1⟩;subst ex;obtain rfl:u=Value.ref a:=rx;obtain⟨t1,t2,_⟩:=Bj I1 d;refine⟨t1,t2,?_⟩;rw[m.trees];refine Zb0 rfl (Zca (ZbK (thn (he pins s1 O H1 _ I1 q1) λiv s2 ⟨y,H2,I2,ry,ov,g,q2⟩=>Zcv ?_)));exact YM hu I2 g ry λw' s3 I3 rw'=>⟨_,H2,I3,rw',q2⟩
theorem Tf(hu:X.A.units+1<cLine)(ho:PE X o td)(he:PE X e ty)(hf:PE X f tx)(m:M2 X o "get" apos e f cpos):PE X (.Call (.Attribute o "get" apos) [e,f] [] cpos) (My td ty tx):=by
 intro pins s O H Q I h;refine wpAny_Call_method m.base m.few m.line ZbD ZbA PySem.F.type_dict_get (thn (ho pins s O H _ I h) ?_);rintro u s1 ⟨x,H1,I1,rx,a,ex,d,q1⟩;subst ex;obtain rfl:u=Value.ref a:=rx;obtain⟨t1,t2,_⟩:=Bj I1 d;refine⟨t1,t2,?_⟩;rw[m.trees];refine Zb0 rfl (Zca (ZbK (thn (he pins s1 O H1 _ I1 q1) λiv s2 ⟨y,H2,I2,ry,q2⟩=>
  ZbK (thn (hf pins s2 O H2 _ I2 q2) λfv s3 ⟨z,H3,I3,rz,ov,g,q3⟩=>Zcv ?_))))
 exact YQ hu I3 g ry rz λw' s4 I4 rw'=>⟨_,H3,I4,rw',q3⟩
end
end L2
namespace L2.MP
open PySem PySem.Spec PyProof.Rows
inductive PV where
 |non|bl (b:Bool)|int (i:Int)|str (x:Str)|ty (n:String)
 |tup (l:List PV)|lst (l:List PV)|dk (l:List (Key×PV))|dt (l:List (List Key×PV))
 |exc (c:Str) (fs:List (Str×PV))
noncomputable instance:Inhabited PV:=⟨.non⟩
def PV.flat:PV->Bool
 |.non|.bl _|.int _|.str _|.ty _=>true
 |_=>false
def rA:Nat->PV->Bool
 |0,p=>p.flat
 |n+1,.tup l=>l.all (rA n)
 |_+1,p=>p.flat
def PV.still(p:PV):Bool:=rA 5 p
inductive Res(α:Type) where
 |ok (a:α)|ex (z:PV)
def bnd{α β:Type}(x:Option (Res α))(k:α->Option (Res β)):Option (Res β):=match x with
 |some (.ok a)=>k a
 |some (.ex z)=>some (.ex z)
 |none=>none
def XO(e C:Addr)(d:Option Addr):HO:=.ext λh=>∃ vs:Array Value,h.get? e=some { cls:=.ref C,dict:=d,data:=.fields vs }
structure XNm(K:Frag)(C:Addr)(c:Str):Prop where
 ns:nsIn K mainGlobals c=some (some (.ref C))
 cl:∃ cd,PySem.W.clsIn K C=some cd/\cd.name=c
inductive Rep(K:Frag)(F:Hp):V->PV->Prop
 |non:Rep K F .non .non
 |bl {b:Bool}:Rep K F (.bl b) (.bl b)
 |int {i:Int}:Rep K F (.int i) (.int i)
 |str {x:Str}:Rep K F (.str x) (.str x)
 |ty {n:String}:Rep K F (.ty n) (.ty n)
 |tup {a:Addr}{xs:List V}{l:List PV} (h:F a=some (.tup xs)) (hl:xs.length=l.length) (hr:∀ (j:Nat) x p,xs[j]?=some x->l[j]?=some p->Rep K F x p):Rep K F (.ref a) (.tup l)
 |lst {a:Addr}{xs:List V}{l:List PV} (h:SqL K F a xs) (hl:xs.length=l.length) (hr:∀ (j:Nat) x p,xs[j]?=some x->l[j]?=some p->Rep K F x p):Rep K F (.ref a) (.lst l)
 |dk {a:Addr}{xs:List (Key×V)}{l:List (Key×PV)} (h:Rd F a (.dK xs)) (hl:xs.map (·.1)=l.map (·.1)) (hr:∀ (j:Nat) x p,xs[j]?=some x->l[j]?=some p->Rep K F x.2 p.2):Rep K F (.ref a) (.dk l)
 |dt {a:Addr}{xs:List (List Key×V)}{l:List (List Key×PV)} (h:Rd F a (.dT xs)) (hl:xs.map (·.1)=l.map (·.1)) (hr:∀ (j:Nat) x p,xs[j]?=some x->l[j]?=some p->Rep K F x.2 p.2):Rep K F (.ref a) (.dt l)
 |exc {a C dx:Addr}{c:Str}{xs:List (Str×V)}{l:List (Str×PV)} (nm:XNm K C c) (h:F a=some (XO a C (some dx))) (hd:F dx=some (.xd xs)) (hl:xs.map (·.1)=l.map (·.1)) (hr:∀ (j:Nat) x p,xs[j]?=some x->l[j]?=some p->Rep K F x.2 p.2):Rep K F (.ref a) (.exc c l)
 |exc0 {a C:Addr}{c:Str} (nm:XNm K C c) (h:F a=some (XO a C none)):Rep K F (.ref a) (.exc c [])
def bR(K:Frag)(F:Hp)(xs:List V)(l:List PV):Prop:=xs.length=l.length/\∀ (j:Nat) x p,xs[j]?=some x->l[j]?=some p->Rep K F x p
section
variable{K:Frag}{F F':Hp}{v:V}{p:PV}{xs ys:List V}{l m:List PV}
theorem _root_.L2.Rd.same{F F':Hp}{a:Addr}{u:HO}(h:Rd F a u)(s:aU F F'):Rd F' a u:=h.imp (s _ _) λ⟨o,e⟩=>⟨o,s _ _ e⟩
theorem Rep.up(h:Rep K F v p)(s:aU F F'):Rep K F' v p:=by
 induction h with
 |non=>exact .non
 |bl=>exact .bl
 |int=>exact .int
 |str=>exact .str
 |ty=>exact .ty
 |tup h hl _ ih=>exact .tup (s _ _ h) hl ih
 |lst h hl _ ih=>exact .lst (s.seq h) hl ih
 |dk h hl _ ih=>exact .dk (h.same s) hl ih
 |dt h hl _ ih=>exact .dt (h.same s) hl ih
 |exc nm h hd hl _ ih=>exact .exc nm (s _ _ h) (s _ _ hd) hl ih
 |exc0 nm h=>exact .exc0 nm (s _ _ h)
theorem bR.up(h:bR K F xs l)(s:aU F F'):bR K F' xs l:=⟨h.1,λj x p a b=>(h.2 j x p a b).up s⟩
theorem Rep.free(h:Rep K F v p)(hf:p.flat=true):Rep K F' v p:=by
 cases h with
 |non=>exact .non
 |bl=>exact .bl
 |int=>exact .int
 |str=>exact .str
 |ty=>exact .ty
 |tup=>cases hf
 |lst=>cases hf
 |dk=>cases hf
 |dt=>cases hf
 |exc=>cases hf
 |exc0=>cases hf
theorem bR.nil:bR K F [] []:=⟨rfl,λj x p h=>by simp at h⟩
theorem bR.cons(h:Rep K F v p)(t:bR K F xs l):bR K F (v::xs) (p::l):=by
 refine⟨by simp[t.1],λj x q a b=>?_⟩
 cases j with
 |zero=>simp at a b;subst a b;exact h
 |succ j=>exact t.2 j x q (by simpa using a) (by simpa using b)
theorem bR.append(h:bR K F xs l)(t:bR K F ys m):bR K F (xs++ys) (l++m):=by
 refine⟨by rw[ZaC,ZaC,h.1,t.1],λj x p a b=>?_⟩
 by_cases hj:j<xs.length
 ·rw[Zak hj] at a;rw[Zak (by rw[<-h.1];exact hj)] at b
  exact h.2 j x p a b
 ·rw[Zas (by lia)] at a
  rw[Zas (by rw[<-h.1];lia),<-h.1] at b
  exact t.2 _ x p a b
theorem bR.snoc(h:bR K F xs l)(t:Rep K F v p):bR K F (xs++[v]) (l++[p]):=h.append (bR.nil.cons t)
theorem bR.get(h:bR K F xs l){j:Nat}(e:l[j]?=some p):∃ x,xs[j]?=some x/\Rep K F x p:=by
 have hj:j<xs.length:=by rw[h.1];exact(Zac.mp e).1
 exact⟨xs[j],by simp[hj],h.2 j _ p (by simp[hj]) e⟩
theorem bR.got(h:bR K F xs l){j:Nat}(e:xs[j]?=some v):∃ p,l[j]?=some p/\Rep K F v p:=by
 have hj:j<l.length:=by rw[<-h.1];exact(Zac.mp e).1
 exact⟨l[j],by simp[hj],h.2 j v _ e (by simp[hj])⟩
theorem bR.take(h:bR K F xs l)(n:Nat):bR K F (xs.take n) (l.take n):=by
 refine⟨by simp[h.1],λj x p a b=>?_⟩
 rw[List.getElem?_take] at a b;split at a
 ·rename_i hj;rw[Zan hj] at b;exact h.2 j x p a b
 ·cases a
theorem bR.drop(h:bR K F xs l)(n:Nat):bR K F (xs.drop n) (l.drop n):=by
 refine⟨by simp[h.1],λj x p a b=>?_⟩
 rw[List.getElem?_drop] at a b;exact h.2 _ x p a b
theorem bR.dD(h:bR K F xs (p::l)):∃ v ys,xs=v::ys/\Rep K F v p/\bR K F ys l:=by
 obtain⟨hl,hr⟩:=h
 match xs,hl,hr with
 |[],hl,_=>simp at hl
 |v::ys,hl,hr=>exact⟨v,ys,rfl,hr 0 v p rfl rfl,by simpa using hl,λj x q a b=>hr (j+1) x q (by simpa using a) (by simpa using b)⟩
theorem bR.jD(h:bR K F xs []):xs=[]:=by
 have:=h.1;simpa using this
theorem bR.wI:∀ (ns:List Int),bR K F (ns.map V.int) (ns.map PV.int)
 |[]=>.nil
 |n::ns=>(bR.wI ns).cons .int
theorem Rep.bD{i:Int}(h:Rep K F v (.int i)):v=.int i:=by cases h;rfl
theorem Rep.iD{b:Bool}(h:Rep K F v (.bl b)):v=.bl b:=by cases h;rfl
theorem Rep.cG{z:Str}(h:Rep K F v (.str z)):v=.str z:=by cases h;rfl
theorem Rep.g8(h:Rep K F v .non):v=.non:=by cases h;rfl
theorem Rep.YS{n:String}(h:Rep K F v (.ty n)):v=.ty n:=by cases h;rfl
theorem Rep.dh(h:Rep K F v (.tup l)):∃ a xs,v=.ref a/\SqT K F a xs/\bR K F xs l:=by cases h with|tup h hl hr=>exact⟨_,_,rfl,SqT.of h,hl,hr⟩
theorem Rep.wJ(h:Rep K F v (.tup l)):∃ a xs,v=.ref a/\F a=some (.tup xs)/\bR K F xs l:=by cases h with|tup h hl hr=>exact⟨_,_,rfl,h,hl,hr⟩
theorem Rep.cH(h:Rep K F v (.lst l)):∃ a xs,v=.ref a/\SqL K F a xs/\bR K F xs l:=by cases h with|lst h hl hr=>exact⟨_,_,rfl,h,hl,hr⟩
end
structure Cf where
 io:Addr->Prop
 nw:Prop
 H0:Hp
 F0:Hp
 E:XK
inductive Sl where
 |sh (p:PV)|ow (p:PV)|dp (p:PV)
noncomputable abbrev Rho:=List (Option Sl)
def Own(K:Frag)(F H:Hp)(a:Addr):PV->Prop
 |.lst l=>∃ xs,H a=some (.lst xs)/\bR K F xs l
 |.dk l=>∃ xs,H a=some (.dK xs)/\xs.map (·.1)=l.map (·.1)/\∀ (j:Nat) x p,xs[j]?=some x->l[j]?=some p->Rep K F x.2 p.2
 |.dt l=>∃ xs,H a=some (.dT xs)/\xs.map (·.1)=l.map (·.1)/\∀ (j:Nat) x p,xs[j]?=some x->l[j]?=some p->Rep K F x.2 p.2
 |_=>False
inductive Dp(K:Frag)(F H:Hp):(Addr->Prop)->V->PV->Prop
 |fr {P:Addr->Prop}{v:V}{p:PV} (h:Rep K F v p) (st:p.still=true):Dp K F H P v p
 |lst {P:Addr->Prop}{S:Nat->Addr->Prop}{a:Addr}{xs:List V}{l:List PV} (h:H a=some (.lst xs)) (hp:P a) (hs:∀ j b,S j b->P b/\b≠a) (dj:∀ i j b,S i b->S j b->i=j) (hl:xs.length=l.length)
   (hr:∀ (j:Nat) x p,xs[j]?=some x->l[j]?=some p->Dp K F H (S j) x p):Dp K F H P (.ref a) (.lst l)
 |tup {P:Addr->Prop}{S:Nat->Addr->Prop}{a:Addr}{xs:List V}{l:List PV} (h:H a=some (.tup xs)) (hs:∀ j b,S j b->P b) (dj:∀ i j b,S i b->S j b->i=j) (hl:xs.length=l.length)
   (hr:∀ (j:Nat) x p,xs[j]?=some x->l[j]?=some p->Dp K F H (S j) x p):Dp K F H P (.ref a) (.tup l)
 |dk {P:Addr->Prop}{S:Nat->Addr->Prop}{a:Addr}{xs:List (Key×V)}{l:List (Key×PV)} (h:H a=some (.dK xs)) (hp:P a) (hs:∀ j b,S j b->P b/\b≠a) (dj:∀ i j b,S i b->S j b->i=j) (hl:xs.map (·.1)=l.map (·.1))
   (hr:∀ (j:Nat) x p,xs[j]?=some x->l[j]?=some p->Dp K F H (S j) x.2 p.2):Dp K F H P (.ref a) (.dk l)
 |dt {P:Addr->Prop}{S:Nat->Addr->Prop}{a:Addr}{xs:List (List Key×V)}{l:List (List Key×PV)} (h:H a=some (.dT xs)) (hp:P a) (hs:∀ j b,S j b->P b/\b≠a) (dj:∀ i j b,S i b->S j b->i=j) (hl:xs.map (·.1)=l.map (·.1))
   (hr:∀ (j:Nat) x p,xs[j]?=some x->l[j]?=some p->Dp K F H (S j) x.2 p.2):Dp K F H P (.ref a) (.dt l)
section
variable{K:Frag}{F F' H H':Hp}{v:V}{p:PV}{P P':Addr->Prop}
theorem Dp.mono(h:Dp K F H P v p)(m:∀ b,P b->P' b):Dp K F H P' v p:=by
 cases h with
 |fr h st=>exact .fr h st
 |lst h hp hs dj hl hr=>exact .lst h (m _ hp) (λj b q=>⟨m _ (hs j b q).1,(hs j b q).2⟩) dj hl hr
 |tup h hs dj hl hr=>exact .tup h (λj b q=>m _ (hs j b q)) dj hl hr
 |dk h hp hs dj hl hr=>exact .dk h (m _ hp) (λj b q=>⟨m _ (hs j b q).1,(hs j b q).2⟩) dj hl hr
 |dt h hp hs dj hl hr=>exact .dt h (m _ hp) (λj b q=>⟨m _ (hs j b q).1,(hs j b q).2⟩) dj hl hr
theorem Dp.up(h:Dp K F H P v p)(sf:aU F F')(sh:∀ b o,P b->H b=some o->H' b=some o)(ht:∀ b ys,H b=some (.tup ys)->H' b=some (.tup ys)):Dp K F' H' P v p:=by
 induction h with
 |fr h st=>exact .fr (h.up sf) st
 |lst h hp hs dj hl _ ih=>exact .lst (sh _ _ hp h) hp hs dj hl λj x p e1 e2=>ih j x p e1 e2 λb o q=>sh b o (hs j b q).1
 |tup h hs dj hl _ ih=>exact .tup (ht _ _ h) hs dj hl λj x p e1 e2=>ih j x p e1 e2 λb o q=>sh b o (hs j b q)
 |dk h hp hs dj hl _ ih=>exact .dk (sh _ _ hp h) hp hs dj hl λj x p e1 e2=>ih j x p e1 e2 λb o q=>sh b o (hs j b q).1
 |dt h hp hs dj hl _ ih=>exact .dt (sh _ _ hp h) hp hs dj hl λj x p e1 e2=>ih j x p e1 e2 λb o q=>sh b o (hs j b q).1
theorem Dp.seen(h:Dp K F H P v p)(sf:aU F F')(sh:∀ b o,P b->H b=some o->F' b=some o)(ht:∀ b ys,H b=some (.tup ys)->F' b=some (.tup ys)):Rep K F' v p:=by
 induction h with
 |fr h st=>exact h.up sf
 |lst h hp hs dj hl _ ih=>exact .lst (SqL.of (sh _ _ hp h)) hl λj x p e1 e2=>ih j x p e1 e2 λb o q=>sh b o (hs j b q).1
 |tup h hs dj hl _ ih=>exact .tup (ht _ _ h) hl λj x p e1 e2=>ih j x p e1 e2 λb o q=>sh b o (hs j b q)
 |dk h hp hs dj hl _ ih=>exact .dk (.inl (sh _ _ hp h)) hl λj x p e1 e2=>ih j x p e1 e2 λb o q=>sh b o (hs j b q).1
 |dt h hp hs dj hl _ ih=>exact .dt (.inl (sh _ _ hp h)) hl λj x p e1 e2=>ih j x p e1 e2 λb o q=>sh b o (hs j b q).1
end
structure RD(K:Frag)(C:Cf)(F H:Hp)(O:St)(Z:Rho)(P:Nat->Addr->Prop):Prop where
 own:∀ i b,P i b->F b=none/\(∃ o,H b=some o/\∀ ys,o≠.tup ys)/\C.nw/\C.H0 b=none
 dis:∀ i j b,P i b->P j b->i=j
 ow:∀ (i j:Nat) q b,P i b->Z[j]?=some (some (.ow q))->O[j]?≠some (some (.ref b))
 dp:∀ (i:Nat) p,Z[i]?=some (some (.dp p))->∃ v,O[i]?=some (some v)/\Dp K F H (P i) v p
theorem RD.no{K:Frag}{C:Cf}{F H:Hp}{O:St}{Z:Rho}(h:∀ (i:Nat) p,Z[i]?≠some (some (.dp p))):RD K C F H O Z (λ_ _=>False):=
 ⟨λ_ _ q=>q.elim,λ_ _ _ q=>q.elim,λ_ _ _ _ q=>q.elim,λi p e=>absurd e (h i p)⟩
def Frz(H:Hp)(b:Addr)(o:HO):Prop:=H b=none\/∃ ys,o=.tup ys
structure RB(C:Cf)(F H:Hp):Prop where
 sub:aU F H
 keep:∀ b o,C.H0 b=some o->¬C.io b->H b=some o
 new:∀ b o,F b=some o->C.F0 b=some o\/Frz C.H0 b o
 ios:∀ b,C.io b->H b≠none/\C.H0 b≠none
structure RE(K:Frag)(C:Cf)(F H:Hp)(O:St)(Z:Rho):Prop where
 rb:RB C F H
 len:O.length=Z.length
 sh:∀ (i:Nat) p,Z[i]?=some (some (.sh p))->∃ v,O[i]?=some (some v)/\Rep K F v p
 ow:∀ (i:Nat) p,Z[i]?=some (some (.ow p))->∃ a,O[i]?=some (some (.ref a))/\Own K F H a p/\F a=none/\(C.io a\/(C.nw/\C.H0 a=none))
 dis:∀ (i j:Nat) p q a,Z[i]?=some (some (.ow p))->Z[j]?=some (some (.ow q))->O[i]?=some (some (.ref a))->O[j]?=some (some (.ref a))->i=j
 dd:∃ P,RD K C F H O Z P
structure Up(F H F' H':Hp):Prop where
 ff:aU F F'
 hh:aU H H'
 fr:∀ b o,F' b=some o->F b=some o\/Frz H b o
 fh:aU F' H'
section
variable{K:Frag}{C:Cf}{F F1 F2 F' H H1 H2 H':Hp}{O:St}{Z:Rho}{a:Addr}{p:PV}{v:V}
theorem Up.refl(s:aU F H):Up F H F H:=⟨aU.refl _,aU.refl _,λ_ _ h=>.inl h,s⟩
theorem Up.trans(a:Up F H F1 H1)(b:Up F1 H1 F2 H2):Up F H F2 H2:=
 ⟨a.ff.trans b.ff,a.hh.trans b.hh,λc o h=>(b.fr c o h).elim (a.fr c o) λn=>.inr (n.imp (λn=>a.hh.free n) id),b.fh⟩
theorem Own.ne(h:Own K F H a p):∃ o,H a=some o:=by
 cases p with
 |lst l=>obtain⟨xs,e,_⟩:=h;exact⟨_,e⟩
 |dk l=>obtain⟨xs,e,_⟩:=h;exact⟨_,e⟩
 |dt l=>obtain⟨xs,e,_⟩:=h;exact⟨_,e⟩
 |_=>exact h.elim
theorem Own.zq{ys:List V}(h:Own K F H a p)(e:H a=some (.tup ys)):False:=by
 cases p with
 |lst l=>obtain⟨xs,e',_⟩:=h;rw[e] at e';cases e'
 |dk l=>obtain⟨xs,e',_⟩:=h;rw[e] at e';cases e'
 |dt l=>obtain⟨xs,e',_⟩:=h;rw[e] at e';cases e'
 |_=>exact h.elim
theorem RD.up{P:Nat->Addr->Prop}(d:RD K C F H O Z P)(u:Up F H F' H'):RD K C F' H' O Z P where
 own:=λi b q=>by
  obtain⟨a1,⟨o',a2,a3⟩,a4⟩:=d.own i b q;refine⟨?_,⟨o',u.hh _ _ a2,a3⟩,a4⟩;cases e:F' b with
  |none=>rfl
  |some o=>
   rcases u.fr b o e with z|z|⟨ys,z⟩
   ·rw[a1] at z;cases z
   ·rw[a2] at z;cases z
   ·subst z;have w:=u.fh _ _ e;rw[u.hh _ _ a2] at w;cases w;exact absurd rfl (a3 ys)
 dis:=d.dis
 ow:=d.ow
 dp:=λi p e=>let⟨v,e1,e2⟩:=d.dp i p e;⟨v,e1,e2.up u.ff (λb o _ q=>u.hh b o q) λb ys q=>u.hh b _ q⟩
theorem Own.up(h:Own K F H a p)(sf:aU F F')(sh:∀ o,H a=some o->H' a=some o):Own K F' H' a p:=by
 cases p with
 |lst l=>obtain⟨xs,e,r⟩:=h;exact⟨xs,sh _ e,r.up sf⟩
 |dk l=>obtain⟨xs,e,r,q⟩:=h;exact⟨xs,sh _ e,r,λj x p a b=>(q j x p a b).up sf⟩
 |dt l=>obtain⟨xs,e,r,q⟩:=h;exact⟨xs,sh _ e,r,λj x p a b=>(q j x p a b).up sf⟩
 |_=>exact h.elim
theorem Own.frozen(h:Own K F H a p)(hn:F a=none):∃ o,H a=some o/\Rep K (upd F a o) (.ref a) p:=by
 have s:∀ o,aU F (upd F a o):=λo=>fj hn;cases p with
 |lst l=>obtain⟨xs,e,r⟩:=h;exact⟨_,e,.lst (SqL.of aP) r.1 (r.up (s _)).2⟩
 |dk l=>obtain⟨xs,e,r,q⟩:=h;exact⟨_,e,.dk (.inl aP) r λj x p a b=>(q j x p a b).up (s _)⟩
 |dt l=>obtain⟨xs,e,r,q⟩:=h;exact⟨_,e,.dt (.inl aP) r λj x p a b=>(q j x p a b).up (s _)⟩
 |_=>exact h.elim
theorem Own.lent(h:Own K F H a p)(s:aU F H):Rep K H (.ref a) p:=by
 cases p with
 |lst l=>obtain⟨xs,e,r⟩:=h;exact .lst (SqL.of e) r.1 (r.up s).2
 |dk l=>obtain⟨xs,e,r,q⟩:=h;exact .dk (.inl e) r λj x p a b=>(q j x p a b).up s
 |dt l=>obtain⟨xs,e,r,q⟩:=h;exact .dt (.inl e) r λj x p a b=>(q j x p a b).up s
 |_=>exact h.elim
theorem RB.up(h:RB C F H)(u:Up F H F' H'):RB C F' H' where
 sub:=u.fh
 keep:=λb o e n=>u.hh _ _ (h.keep b o e n)
 new:=λb o e=>(u.fr b o e).elim (h.new b o) λn=>.inr (n.imp (λn=>by
  cases q:C.H0 b with
  |none=>rfl
  |some o'=>
   by_cases hi:C.io b
   ·exact absurd n (h.ios b hi).1
   ·rw[h.keep b o' q hi] at n;cases n) id)
 ios:=λb hb=>⟨λn=>(h.ios b hb).1 (u.hh.free n),(h.ios b hb).2⟩
theorem RB.wK(h:RB C F H){b:Addr}(n:H b=none):C.H0 b=none:=by
 cases q:C.H0 b with
 |none=>rfl
 |some o'=>
  by_cases hi:C.io b
  ·exact absurd n (h.ios b hi).1
  ·rw[h.keep b o' q hi] at n;cases n
theorem RE.up(h:RE K C F H O Z)(u:Up F H F' H'):RE K C F' H' O Z where
 rb:=h.rb.up u
 len:=h.len
 sh:=λi p e=>let⟨v,e1,e2⟩:=h.sh i p e;⟨v,e1,e2.up u.ff⟩
 ow:=λi p e=>by
  obtain⟨a,e1,e2,e3,e4⟩:=h.ow i p e;refine⟨a,e1,e2.up u.ff λo q=>u.hh _ _ q,?_,e4⟩;cases q:F' a with
  |none=>rfl
  |some o=>
   obtain⟨o',eo⟩:=e2.ne;rcases u.fr a o q with z|z|⟨ys,z⟩
   ·rw[e3] at z;cases z
   ·rw[eo] at z;cases z
   ·subst z;exact absurd (u.fh _ _ q) (λw=>by rw[u.hh _ _ eo] at w;cases w;exact e2.zq eo)
 dis:=h.dis
 dd:=let⟨P,d⟩:=h.dd;⟨P,d.up u⟩
theorem get_set{α:Type}{l:List α}{i j:Nat}{x y:α}(h:(l.set i x)[j]?=some y):(i=j/\x=y)\/(i≠j/\l[j]?=some y):=by
 rw[ZbT] at h;by_cases e:i=j
 ·subst e;rw[Zan rfl] at h;split at h
  ·exact .inl ⟨rfl,Zaf h⟩
  ·cases h
 ·rw[Zam e] at h;exact .inr ⟨e,h⟩
theorem cL{α:Type}{l:List α}{j:Nat}{y:α}(h:l[j]?=some y):j<l.length:=(Zac.mp h).1
theorem RE.set(h:RE K C F H O Z)(i:Nat)(r:Rep K F v p):RE K C F H (O.set i (some v)) (Z.set i (some (.sh p))) where
 rb:=h.rb
 len:=by simp[h.len]
 sh:=λj q e=>by
  rcases get_set e with⟨e1,e2⟩|⟨e1,e2⟩
  ·subst e1;cases e2;have:=cL e;exact⟨v,by rw[Zbe (by rw[h.len];simpa using this)],r⟩
  ·obtain⟨w,e3,e4⟩:=h.sh j q e2;exact⟨w,by rw[Zax e1];exact e3,e4⟩
 ow:=λj q e=>by
  rcases get_set e with⟨e1,e2⟩|⟨e1,e2⟩
  ·cases e2
  ·obtain⟨w,e3,e4⟩:=h.ow j q e2;exact⟨w,by rw[Zax e1];exact e3,e4⟩
 dis:=λj k q q' a e e' f f'=>by
  rcases get_set e with⟨e1,e2⟩|⟨e1,e2⟩
  ·cases e2
  ·rcases get_set e' with⟨e1',e2'⟩|⟨e1',e2'⟩
   ·cases e2'
   ·rw[Zax e1] at f;rw[Zax e1'] at f';exact h.dis j k q q' a e2 e2' f f'
 dd:=let⟨P,d⟩:=h.dd;⟨P,d.own,d.dis,λj k q b z e f=>by
   rcases get_set e with⟨e1,e2⟩|⟨e1,e2⟩
   ·cases e2
   ·rw[Zax e1] at f;exact d.ow j k q b z e2 f,λj q e=>by
   rcases get_set e with⟨e1,e2⟩|⟨e1,e2⟩
   ·cases e2
   ·obtain⟨w,e3,e4⟩:=d.dp j q e2;exact⟨w,by rw[Zax e1];exact e3,e4⟩⟩
theorem RE.aaN(h:RE K C F H O Z)(i:Nat)(r:Own K F H a p)(hn:F a=none)(nw:C.nw)(h0:C.H0 a=none)(ha:∀ (j:Nat) q,Z[j]?=some (some (.ow q))->j≠i->O[j]?≠some (some (.ref a)))(hd:∃ P,RD K C F H O Z P/\∀ j,¬P j a) :
  RE K C F H (O.set i (some (.ref a))) (Z.set i (some (.ow p))) where
 rb:=h.rb
 len:=by simp[h.len]
 sh:=λj q e=>by
  rcases get_set e with⟨e1,e2⟩|⟨e1,e2⟩
  ·cases e2
  ·obtain⟨w,e3,e4⟩:=h.sh j q e2;exact⟨w,by rw[Zax e1];exact e3,e4⟩
 ow:=λj q e=>by
  rcases get_set e with⟨e1,e2⟩|⟨e1,e2⟩
  ·subst e1;cases e2;have:=cL e;exact⟨a,by rw[Zbe (by rw[h.len];simpa using this)],r,hn,.inr ⟨nw,h0⟩⟩
  ·obtain⟨w,e3,e4⟩:=h.ow j q e2;exact⟨w,by rw[Zax e1];exact e3,e4⟩
 dis:=λj k q q' b e e' f f'=>by
  rcases get_set e with⟨e1,e2⟩|⟨e1,e2⟩
  ·rcases get_set e' with⟨e1',e2'⟩|⟨e1',e2'⟩
   ·exact e1.symm.trans e1'
   ·subst e1;have:=cL e;rw[Zbe (by rw[h.len];simpa using this)] at f
    cases f;rw[Zax e1'] at f';exact absurd f' (ha k q' e2' (Zbj e1'))
  ·rcases get_set e' with⟨e1',e2'⟩|⟨e1',e2'⟩
   ·subst e1';have:=cL e';rw[Zbe (by rw[h.len];simpa using this)] at f'
    cases f';rw[Zax e1] at f;exact absurd f (ha j q e2 (Zbj e1))
   ·rw[Zax e1] at f;rw[Zax e1'] at f';exact h.dis j k q q' b e2 e2' f f'
 dd:=let⟨P,d,na⟩:=hd;⟨P,d.own,d.dis,λj k q b z e f=>by
   rcases get_set e with⟨e1,e2⟩|⟨e1,e2⟩
   ·subst e1;have:=cL e;rw[Zbe (by rw[h.len];simpa using this)] at f
    cases f;exact na j z
   ·rw[Zax e1] at f;exact d.ow j k q b z e2 f,λj q e=>by
   rcases get_set e with⟨e1,e2⟩|⟨e1,e2⟩
   ·cases e2
   ·obtain⟨w,e3,e4⟩:=d.dp j q e2;exact⟨w,by rw[Zax e1];exact e3,e4⟩⟩
theorem RE.YT(h:RE K C F H O Z)(n:H a=none)(u:Up F H F' H'):∃ P,RD K C F' H' O Z P/\∀ j,¬P j a:=by
 obtain⟨P,d⟩:=h.dd;exact⟨P,d.up u,λj z=>by obtain⟨_,⟨o,e,_⟩,_⟩:=d.own j a z;rw[n] at e;cases e⟩
theorem RE.apart(h:RE K C F H O Z)(n:H a=none)(j:Nat)(q:PV)(e:Z[j]?=some (some (.ow q))):O[j]?≠some (some (.ref a)):=λf=>by
 obtain⟨b,e1,e2,_⟩:=h.ow j q e;rw[e1] at f;cases f;obtain⟨o,eo⟩:=e2.ne;rw[eo] at n;cases n
theorem RE.write(h:RE K C F H O Z){i:Nat}{o:HO}{p':PV}(e:Z[i]?=some (some (.ow p)))(ea:O[i]?=some (some (.ref a)))(r:Own K F (upd H a o) a p') :
  RE K C F (upd H a o) O (Z.set i (some (.ow p'))):=by
 obtain⟨a',e1,e2,e3,e4⟩:=h.ow i p e;rw[ea] at e1;cases e1;have ne:∀ b u,F b=some u->b≠a:=λb u q z=>by rw[z,e3] at q;cases q
 refine⟨⟨λb u q=>by rw[aL (ne b u q)];exact h.rb.sub b u q,λb u q n=>?_,h.rb.new,λb hb=>⟨?_,(h.rb.ios b hb).2⟩⟩,by simp[h.len],λj q f=>?_,λj q f=>?_,λj k q q' b f f' g g'=>?_,?_⟩
 ·have:b≠a:=λz=>by
   subst z;rcases e4 with z|z
   ·exact n z
   ·rw[z.2] at q;cases q
  rw[aL this];exact h.rb.keep b u q n
 ·by_cases hba:b=a
  ·subst hba;rw[aP];simp
  ·rw[aL hba];exact(h.rb.ios b hb).1
 ·rcases get_set f with⟨e1,f2⟩|⟨e1,f2⟩
  ·cases f2
  ·exact h.sh j q f2
 ·rcases get_set f with⟨e1,f2⟩|⟨e1,f2⟩
  ·subst e1;cases f2;exact⟨a,ea,r,e3,e4⟩
  ·obtain⟨b,g1,g2,g3,g4⟩:=h.ow j q f2;refine⟨b,g1,g2.up (aU.refl _) λu qq=>?_,g3,g4⟩;have:b≠a:=λz=>by subst z;exact e1 (h.dis i j p q b e f2 ea g1)
   rw[aL this];exact qq
 ·have key:∀ (j:Nat) q,(Z.set i (some (Sl.ow p')))[j]?=some (some (.ow q))->∃ q0,Z[j]?=some (some (.ow q0)):=λj q f=>by
   rcases get_set f with⟨e1,f2⟩|⟨e1,f2⟩
   ·subst e1;exact⟨p,e⟩
   ·exact⟨q,f2⟩
  obtain⟨q0,k0⟩:=key j q f;obtain⟨q1,k1⟩:=key k q' f';exact h.dis j k q0 q1 b k0 k1 g g'
 ·obtain⟨P,d⟩:=h.dd;have na:∀ j b,P j b->b≠a:=λj b z e'=>by subst e';exact d.ow j i p b z e ea
  refine⟨P,λj b z=>?_,d.dis,λj k q b z f g=>?_,λj q f=>?_⟩
  ·rw[aL (na j b z)];exact d.own j b z
  ·rcases get_set f with⟨f1,f2⟩|⟨f1,f2⟩
   ·subst f1;exact d.ow j i p b z e g
   ·exact d.ow j k q b z f2 g
  ·rcases get_set f with⟨f1,f2⟩|⟨f1,f2⟩
   ·cases f2
   ·obtain⟨w,e3,e5⟩:=d.dp j q f2;exact⟨w,e3,e5.up (aU.refl _) (λb o z q=>by rw[aL (na j b z)];exact q) λb ys q=>by rw[aL λz=>by subst z;exact e2.zq q];exact q⟩
end
structure Cg extends Cf where
 XR:Hp->Value->Option Addr->PV->Prop
def PX(C:Cg)(F:Hp)(z:PV):Prop:=∀ e d F' H',aU F F'->RB C.toCf F' H'->C.XR F' e d z->C.E e d H'
def Pr{α:Type}(C:Cg)(F:Hp)(ok:α->Prop):Res α->Prop
 |.ok a=>ok a
 |.ex z=>PX C F z
noncomputable abbrev Rel(α:Type):=Hp->Hp->V->α->Prop
def aF(K:Frag):Rel PV:=λF _ v p=>Rep K F v p
def aH(K:Frag):Rel PV:=λ_ H v p=>Rep K H v p
def aV(K:Frag):Rel (List PV):=λF H v l=>∃ a xs,v=.ref a/\SqL K H a xs/\bR K F xs l
def UpM{α:Type}(A:Rel α):Prop:=∀ F H F' H' v a,Up F H F' H'->A F H v a->A F' H' v a
theorem aF.up{K:Frag}:UpM (aF K):=λ_ _ _ _ _ _ u h=>Rep.up h u.ff
theorem aH.up{K:Frag}:UpM (aH K):=λ_ _ _ _ _ _ u h=>Rep.up h u.hh
theorem aV.up{K:Frag}:UpM (aV K):=λ_ _ _ _ _ _ u h=>let⟨a,xs,e,s,r⟩:=h;⟨a,xs,e,u.hh.seq s,r.up u.ff⟩
noncomputable abbrev Fn(α:Type):=Rho->Option (Res α)
def MJ{α:Type}(K:Frag)(C:Cg)(A:Rel α)(te:TE)(f:Fn α):Prop:=
 ∀ F H O Z Q r,RE K C.toCf F H O Z->f Z=some r->Pr C F (λa=>∀ v F' H',Up F H F' H'->A F' H' v a->Q v H') r->te O H Q
def MT(K:Frag)(C:Cg)(tt:TT)(f:Fn Bool):Prop:=
 ∀ F H O Z Q r,RE K C.toCf F H O Z->f Z=some r->Pr C F (λb=>∀ F' H',Up F H F' H'->Q b H') r->tt O H Q
def MA(K:Frag)(C:Cg)(ta:TA)(f:Fn (List PV)):Prop:=
 ∀ F H O Z Q r,RE K C.toCf F H O Z->f Z=some r->Pr C F (λl=>∀ xs F' H',Up F H F' H'->bR K F' xs l->Q xs H') r->ta O H Q
def MAL(K:Frag)(C:Cg)(ta:TA)(f:Fn (List PV)):Prop:=
 ∀ F H O Z Q r,RE K C.toCf F H O Z->f Z=some r->Pr C F (λl=>∀ xs F' H',Up F H F' H'->bR K H' xs l->Q xs H') r->ta O H Q
def MO(K:Frag)(C:Cg)(te:TE)(f:Fn PV):Prop:=
 ∀ F H O Z Q r,RE K C.toCf F H O Z->f Z=some r->Pr C F (λp=>∀ a F' H',Up F H F' H'->H a=none->F' a=none->Own K F' H' a p->Q (.ref a) H') r->te O H Q
theorem bW{α β:Type}{x:Option (Res α)}{k:α->Option (Res β)}{r:Res β}(h:bnd x k=some r):(∃ z,x=some (.ex z)/\r=.ex z)\/∃ a,x=some (.ok a)/\k a=some r:=by
 match x,h with
 |some (.ok a),h=>exact .inr ⟨a,rfl,h⟩
 |some (.ex z),h=>exact .inl ⟨z,rfl,(Zaf h).symm⟩
theorem PX.up{C:Cg}{F F1:Hp}{z:PV}(h:PX C F z)(s:aU F F1):PX C F1 z:=λe d F' H' a b c=>h e d F' H' (s.trans a) b c
theorem Pr.mono{α:Type}{C:Cg}{F F1:Hp}{ok ok':α->Prop}{r:Res α}(h:Pr C F ok r)(s:aU F F1)(k:∀ a,ok a->ok' a):Pr C F1 ok' r:=by
 cases r with
 |ok a=>exact k a h
 |ex z=>exact PX.up h s
section
variable{K:Frag}{C:Cg}{α β γ:Type}{A:Rel α}{B:Rel β}{D:Rel γ}{ta tb:TE}{f:Fn α}{g:Fn β}{F H:Hp}{O:St}{Z:Rho}{Q:VK}
theorem MJ.run{ok:β->Prop}{k:α->Option (Res β)}{r:Res β}(h:MJ K C A ta f)(R:RE K C.toCf F H O Z)(hb:bnd (f Z) k=some r)(P:Pr C F ok r)
  (go:∀ p v F1 H1,k p=some r->Up F H F1 H1->A F1 H1 v p->Q v H1):ta O H Q:=by
 rcases bW hb with⟨z,e,rfl⟩|⟨p,e,hk⟩
 ·exact h F H O Z Q _ R e P
 ·exact h F H O Z Q _ R e λv F1 H1 u a=>go p v F1 H1 hk u a
theorem MT.run{tt:TT}{f:Fn Bool}{Q:Bool->Hp->Prop}{ok:β->Prop}{k:Bool->Option (Res β)}{r:Res β}(h:MT K C tt f)(R:RE K C.toCf F H O Z)(hb:bnd (f Z) k=some r)(P:Pr C F ok r)
  (go:∀ b F1 H1,k b=some r->Up F H F1 H1->Q b H1):tt O H Q:=by
 rcases bW hb with⟨z,e,rfl⟩|⟨p,e,hk⟩
 ·exact h F H O Z Q _ R e P
 ·exact h F H O Z Q _ R e λF1 H1 u=>go p F1 H1 hk u
theorem MA.run{t:TA}{f:Fn (List PV)}{Q:List V->Hp->Prop}{ok:β->Prop}{k:List PV->Option (Res β)}{r:Res β}(h:MA K C t f)(R:RE K C.toCf F H O Z)(hb:bnd (f Z) k=some r)(P:Pr C F ok r)
  (go:∀ l xs F1 H1,k l=some r->Up F H F1 H1->bR K F1 xs l->Q xs H1):t O H Q:=by
 rcases bW hb with⟨z,e,rfl⟩|⟨p,e,hk⟩
 ·exact h F H O Z Q _ R e P
 ·exact h F H O Z Q _ R e λxs F1 H1 u a=>go p xs F1 H1 hk u a
theorem MAL.run{t:TA}{f:Fn (List PV)}{Q:List V->Hp->Prop}{ok:β->Prop}{k:List PV->Option (Res β)}{r:Res β}(h:MAL K C t f)(R:RE K C.toCf F H O Z)(hb:bnd (f Z) k=some r)(P:Pr C F ok r)
  (go:∀ l xs F1 H1,k l=some r->Up F H F1 H1->bR K H1 xs l->Q xs H1):t O H Q:=by
 rcases bW hb with⟨z,e,rfl⟩|⟨p,e,hk⟩
 ·exact h F H O Z Q _ R e P
 ·exact h F H O Z Q _ R e λxs F1 H1 u a=>go p xs F1 H1 hk u a
theorem Pr.later{D:Rel γ}{r:Res γ}{F1 H1:Hp}(P:Pr C F (λa=>∀ v F' H',Up F H F' H'->D F' H' v a->Q v H') r)(u:Up F H F1 H1):Pr C F1 (λa=>∀ v F' H',Up F1 H1 F' H'->D F' H' v a->Q v H') r:=
 P.mono u.ff λ_ h v F' H' u' d=>h v F' H' (u.trans u') d
theorem Pr.Tg{Q:Bool->Hp->Prop}{r:Res Bool}{F1 H1:Hp}(P:Pr C F (λb=>∀ F' H',Up F H F' H'->Q b H') r)(u:Up F H F1 H1):Pr C F1 (λb=>∀ F' H',Up F1 H1 F' H'->Q b H') r:=
 P.mono u.ff λ_ h F' H' u'=>h F' H' (u.trans u')
theorem Pr.Bm{r:Res PV}{F1 H1:Hp}(P:Pr C F (λp=>∀ a F' H',Up F H F' H'->H a=none->F' a=none->Own K F' H' a p->Q (.ref a) H') r)(u:Up F H F1 H1) :
  Pr C F1 (λp=>∀ a F' H',Up F1 H1 F' H'->H1 a=none->F' a=none->Own K F' H' a p->Q (.ref a) H') r:=
 P.mono u.ff λ_ h a F' H' u' n1 n2 d=>h a F' H' (u.trans u') (u.hh.free n1) n2 d
theorem Pr.YW{Q:List V->Hp->Prop}{r:Res (List PV)}{F1 H1:Hp}(P:Pr C F (λl=>∀ xs F' H',Up F H F' H'->bR K F' xs l->Q xs H') r)(u:Up F H F1 H1):Pr C F1 (λl=>∀ xs F' H',Up F1 H1 F' H'->bR K F' xs l->Q xs H') r:=
 P.mono u.ff λ_ h xs F' H' u' d=>h xs F' H' (u.trans u') d
theorem Pr.YX{Q:List V->Hp->Prop}{r:Res (List PV)}{F1 H1:Hp}(P:Pr C F (λl=>∀ xs F' H',Up F H F' H'->bR K H' xs l->Q xs H') r)(u:Up F H F1 H1):Pr C F1 (λl=>∀ xs F' H',Up F1 H1 F' H'->bR K H' xs l->Q xs H') r:=
 P.mono u.ff λ_ h xs F' H' u' d=>h xs F' H' (u.trans u') d
def mV(i:Nat):Fn PV:=λZ=>match Z[i]? with
 |some (some (.sh p))=>some (.ok p)
 |_=>none
theorem ak(i:Nat):MJ K C (aF K) (mj i) (mV i):=by
 intro F H O Z Q r R e P;unfold mV at e;split at e
 ·rename_i p hp;cases e;obtain⟨v,e1,e2⟩:=R.sh i p hp;exact⟨v,e1,P v F H (Up.refl R.rb.sub) e2⟩
 ·cases e
def mVL(i:Nat):Fn PV:=λZ=>match Z[i]? with
 |some (some (.sh p))=>some (.ok p)
 |some (some (.ow p))=>some (.ok p)
 |_=>none
theorem bx(i:Nat):MJ K C (aH K) (mj i) (mVL i):=by
 intro F H O Z Q r R e P;unfold mVL at e;split at e
 ·rename_i p hp;cases e;obtain⟨v,e1,e2⟩:=R.sh i p hp;exact⟨v,e1,P v F H (Up.refl R.rb.sub) (e2.up R.rb.sub)⟩
 ·rename_i p hp;cases e;obtain⟨a,e1,e2,e3,_⟩:=R.ow i p hp;exact⟨_,e1,P _ F H (Up.refl R.rb.sub) (e2.lent R.rb.sub)⟩
 ·cases e
def zr:PV->Option (Res (List PV))
 |.lst l=>some (.ok l)
 |_=>none
theorem Ae{f:Fn PV}(h:MJ K C (aF K) ta f):MJ K C (aV K) ta (λZ=>bnd (f Z) zr):=by
 intro F H O Z Q r R e P;refine h.run R e P λp v F1 H1 hk u a=>?_
 match p,hk with
 |.lst l,hk=>
  cases hk;obtain⟨b,xs,rfl,s,rr⟩:=Rep.cH a;exact P _ F1 H1 u ⟨b,xs,rfl,u.fh.seq s,rr⟩
theorem gB(i:Nat):MJ K C (aV K) (mj i) (λZ=>bnd (mVL i Z) zr):=by
 intro F H O Z Q r R e P;rcases bW e with⟨z,e1,rfl⟩|⟨p,e1,hk⟩
 ·unfold mVL at e1;split at e1<;>cases e1
 ·unfold mVL at e1
  match p,hk with
  |.lst l,hk=>
   cases hk;split at e1
   ·rename_i q hq;cases e1;obtain⟨v,e2,e3⟩:=R.sh i _ hq;obtain⟨b,xs,rfl,s,rr⟩:=Rep.cH e3;exact⟨_,e2,P _ F H (Up.refl R.rb.sub) ⟨b,xs,rfl,R.rb.sub.seq s,rr⟩⟩
   ·rename_i q hq;cases e1;obtain⟨a,e2,⟨xs,e3,rr⟩,_⟩:=R.ow i _ hq;exact⟨_,e2,P _ F H (Up.refl R.rb.sub) ⟨a,xs,rfl,SqL.of e3,rr⟩⟩
   ·cases e1
theorem bH{f:Fn PV}(h:MJ K C (aF K) ta f):MJ K C (aH K) ta f:=by
 intro F H O Z Q r R e P;refine h F H O Z Q r R e ?_;exact P.mono (aU.refl _) λ_ k v F' H' u d=>k v F' H' u (Rep.up d u.fh)
def mC(p:PV):Fn PV:=λ_=>some (.ok p)
theorem Th{v:V}{p:PV}(h:∀ F,Rep K F v p):MJ K C (aF K) (tC v) (mC p):=by
 intro F H O Z Q r R e P;cases e;exact P v F H (Up.refl R.rb.sub) (h F)
theorem aC{i:Int}:MJ K C (aF K) (tC (.int i)) (mC (.int i)):=Th λ_=>.int
theorem ut{i:Bool}:MJ K C (aF K) (tC (.bl i)) (mC (.bl i)):=Th λ_=>.bl
theorem jW{i:Str}:MJ K C (aF K) (tC (.str i)) (mC (.str i)):=Th λ_=>.str
theorem uZ:MJ K C (aF K) (tC .non) (mC .non):=Th λ_=>.non
theorem Bo{n:String}:MJ K C (aF K) (tC (.ty n)) (mC (.ty n)):=Th λ_=>.ty
theorem bK{f:Fn PV}(h:MO K C ta f):MJ K C (aF K) ta f:=by
 intro F H O Z Q r R e P;refine h F H O Z Q r R e (P.mono (aU.refl _) λp k a F' H' u n1 n2 o=>?_);obtain⟨ob,eo,rr⟩:=o.frozen n2;refine k _ (upd F' a ob) H' ⟨u.ff.trans (fj n2),u.hh,λb x q=>?_,λb x q=>?_⟩ rr
 ·by_cases hb:b=a
  ·subst hb;exact .inr (.inl n1)
  ·rw[aL hb] at q;exact u.fr b x q
 ·by_cases hb:b=a
  ·subst hb;rw[aP] at q;cases q;exact eo
  ·rw[aL hb] at q;exact u.fh b x q
theorem mz{f:Fn PV}(h:MO K C ta f):MJ K C (aV K) ta (λZ=>bnd (f Z) zr):=Ae (bK h)
def m2{α β γ:Type}(op:α->β->Option (Res γ))(f:Fn α)(g:Fn β):Fn γ:=λZ=>bnd (f Z) λa=>bnd (g Z) λb=>op a b
def R2M(C:Cg)(A:Rel α)(B:Rel β)(D:Rel γ)(r:R2)(op:α->β->Option (Res γ)):Prop:=
 ∀ F H x y a b res Q,aU F H->A F H x a->B F H y b->op a b=some res->Pr C F (λc=>∀ v F' H',Up F H F' H'->D F' H' v c->Q v H') res->r x y H Q
theorem aA{op:α->β->Option (Res γ)}{r2:R2}(up:UpM A)(rule:R2M C A B D r2 op)(ha:MJ K C A ta f)(hb:MJ K C B tb g):MJ K C D (tOp r2 ta tb) (m2 op f g):=by
 intro F H O Z Q r R e P;refine ha.run R e P λp v F1 H1 hk u a=>?_;refine hb.run (R.up u) hk (P.later u) λq w F2 H2 hk2 u2 b=>?_;exact rule F2 H2 v w p q r Q u2.fh (up _ _ _ _ _ _ u2 a) b hk2 (P.later (u.trans u2))
def R2O(K:Frag)(C:Cg)(A:Rel α)(B:Rel β)(r:R2)(op:α->β->Option (Res PV)):Prop:=
 ∀ F H x y a b res Q,aU F H->A F H x a->B F H y b->op a b=some res->Pr C F (λp=>∀ a F' H',Up F H F' H'->H a=none->F' a=none->Own K F' H' a p->Q (.ref a) H') res->r x y H Q
theorem Ti{op:α->β->Option (Res PV)}{r2:R2}(up:UpM A)(rule:R2O K C A B r2 op)(ha:MJ K C A ta f)(hb:MJ K C B tb g):MO K C (tOp r2 ta tb) (m2 op f g):=by
 intro F H O Z Q r R e P;refine ha.run R e P λp v F1 H1 hk u a=>?_;refine hb.run (R.up u) hk (P.Bm u) λq w F2 H2 hk2 u2 b=>?_;exact rule F2 H2 v w p q r Q u2.fh (up _ _ _ _ _ _ u2 a) b hk2 (P.Bm (u.trans u2))
def m1{α γ:Type}(op:α->Option (Res γ))(f:Fn α):Fn γ:=λZ=>bnd (f Z) op
def Hf(o1 o2:PV->PV->Option (Res PV))(f g h:Fn PV):Fn PV:=λZ=>bnd (f Z) λa=>bnd (g Z) λb=>bnd (o1 a b) λz=>match z with
 |.bl true=>bnd (h Z) λc=>o2 b c
 |.bl false=>some (.ok (.bl false))
 |_=>none
theorem Tj{o1 o2:PV->PV->Option (Res PV)}{r r':R2}{tc:TE}{f g h:Fn PV}(r1:R2M C (aF K) (aF K) (aF K) r o1)(r2:R2M C (aF K) (aF K) (aF K) r' o2)(ha:MJ K C (aF K) ta f)(hb:MJ K C (aF K) tb g)(hc:MJ K C (aF K) tc h) :
  MJ K C (aF K) (Sh r r' ta tb tc) (Hf o1 o2 f g h):=by
 intro F H O Z Q r R e P;refine ha.run R e P λp v F1 H1 hk u a=>?_;refine hb.run (R.up u) hk (P.later u) λq w F2 H2 hk2 u2 b=>?_;rcases bW hk2 with⟨z,e1,rfl⟩|⟨z,e1,hk3⟩
 ·exact r1 F2 H2 v w p q _ _ u2.fh (aF.up _ _ _ _ _ _ u2 a) b e1 (PX.up P (u.trans u2).ff)
 ·refine r1 F2 H2 v w p q _ _ u2.fh (aF.up _ _ _ _ _ _ u2 a) b e1 λvz F3 H3 u3 rz=>?_
  match z,hk3 with
  |.bl true,hk3=>
   cases Rep.iD rz;refine⟨true,rfl,?_⟩;rw[Zan rfl];have u13:=u.trans (u2.trans u3);refine hc.run (R.up u13) hk3 (P.later u13) λc wc F4 H4 hk4 u4 rc=>?_;exact r2 F4 H4 w wc q c _ Q u4.fh (Rep.up b (u3.trans u4).ff) rc hk4 (P.later (u13.trans u4))
  |.bl false,hk3=>
   cases Rep.iD rz;cases hk3;refine⟨false,rfl,?_⟩;rw[Zam (by decide)]
   exact P _ F3 H3 (u.trans (u2.trans u3)) .bl
def uv(f g:Fn PV):Fn PV:=λZ=>bnd (f Z) λa=>match a with
 |.bl true=>g Z
 |.bl false=>some (.ok (.bl false))
 |_=>none
def Wi(f g:Fn PV):Fn PV:=λZ=>bnd (f Z) λa=>match a with
 |.bl true=>some (.ok (.bl true))
 |.bl false=>g Z
 |_=>none
def Tn:PV->Option (Res PV)
 |.bl b=>some (.ok (.bl (!b)))
 |_=>none
theorem u5{f g:Fn PV}(ha:MJ K C (aF K) ta f)(hb:MJ K C (aF K) tb g):MJ K C (aF K) (Xk ta tb) (uv f g):=by
 intro F H O Z Q r R e P;refine ha.run R e P λp v F1 H1 hk u a=>?_
 match p,hk with
 |.bl true,hk=>
  cases Rep.iD a;refine⟨true,rfl,?_⟩;rw[Zan rfl];exact hb F1 H1 O Z Q r (R.up u) hk (P.later u)
 |.bl false,hk=>
  cases Rep.iD a;cases hk;refine⟨false,rfl,?_⟩;rw[Zam (by decide)]
  exact P _ F1 H1 u .bl
theorem aab{f g:Fn PV}(ha:MJ K C (aF K) ta f)(hb:MJ K C (aF K) tb g):MJ K C (aF K) (ZR ta tb) (Wi f g):=by
 intro F H O Z Q r R e P;refine ha.run R e P λp v F1 H1 hk u a=>?_
 match p,hk with
 |.bl true,hk=>
  cases Rep.iD a;cases hk;refine⟨true,rfl,?_⟩;rw[Zan rfl];exact P _ F1 H1 u .bl
 |.bl false,hk=>
  cases Rep.iD a;refine⟨false,rfl,?_⟩;rw[Zam (by decide)]
  exact hb F1 H1 O Z Q r (R.up u) hk (P.later u)
theorem YZ{f:Fn PV}(ha:MJ K C (aF K) ta f):MJ K C (aF K) (Xl ta) (m1 Tn f):=by
 intro F H O Z Q r R e P;refine ha.run R e P λp v F1 H1 hk u a=>?_
 match p,hk with
 |.bl b,hk=>
  cases Rep.iD a;cases hk;exact⟨b,rfl,P _ F1 H1 u .bl⟩
def cW:PV->Option (Res Bool)
 |.bl b=>some (.ok b)
 |_=>none
theorem bA{f:Fn PV}(ha:MJ K C (aF K) ta f):MT K C (Xr ta) (m1 cW f):=by
 intro F H O Z Q r R e P;refine ha.run R e P λp v F1 H1 hk u a=>?_
 match p,hk with
 |.bl b,hk=>
  cases Rep.iD a;cases hk;exact⟨b,rfl,P F1 H1 u⟩
theorem lC{f:Fn PV}(ha:MJ K C (aF K) ta f):MT K C (tB ta) (m1 cW f):=bA ha
def Q5(f g:Fn Bool):Fn Bool:=λZ=>bnd (f Z) λa=>if a=true then g Z else some (.ok false)
def mOr(f g:Fn Bool):Fn Bool:=λZ=>bnd (f Z) λa=>if a=true then some (.ok true) else g Z
def Bp(f:Fn Bool):Fn Bool:=λZ=>bnd (f Z) λa=>some (.ok (!a))
variable{c d:TT}{fc gc:Fn Bool}
theorem Mz(ha:MT K C c fc)(hb:MT K C d gc):MT K C (ZP c d) (Q5 fc gc):=by
 intro F H O Z Q r R e P;refine ha.run R e P λb F1 H1 hk u=>?_;cases b with
 |true=>rw[Zan rfl] at hk ⊢;exact hb F1 H1 O Z Q r (R.up u) hk (P.Tg u)
 |false=>rw[Zam (by decide)] at hk ⊢;cases hk;exact P F1 H1 u
theorem Fz(ha:MT K C c fc)(hb:MT K C d gc):MT K C (tOr c d) (mOr fc gc):=by
 intro F H O Z Q r R e P;refine ha.run R e P λb F1 H1 hk u=>?_;cases b with
 |true=>rw[Zan rfl] at hk ⊢;cases hk;exact P F1 H1 u
 |false=>rw[Zam (by decide)] at hk ⊢;exact hb F1 H1 O Z Q r (R.up u) hk (P.Tg u)
theorem rB(ha:MT K C c fc):MT K C (ZQ c) (Bp fc):=by
 intro F H O Z Q r R e P;refine ha.run R e P λb F1 H1 hk u=>?_;cases hk;exact P F1 H1 u
def mIf{γ:Type}(f:Fn Bool)(g h:Fn γ):Fn γ:=λZ=>bnd (f Z) λa=>if a=true then g Z else h Z
theorem Xz{f g:Fn γ}(hc:MT K C c fc)(ha:MJ K C D ta f)(hb:MJ K C D tb g):MJ K C D (tIf c ta tb) (mIf fc f g):=by
 intro F H O Z Q r R e P;refine hc.run R e P λb F1 H1 hk u=>?_;cases b with
 |true=>rw[Zan rfl] at hk ⊢;exact ha F1 H1 O Z Q r (R.up u) hk (P.later u)
 |false=>rw[Zam (by decide)] at hk ⊢;exact hb F1 H1 O Z Q r (R.up u) hk (P.later u)
def bc:Fn (List PV):=λ_=>some (.ok [])
def az(f:Fn PV)(g:Fn (List PV)):Fn (List PV):=λZ=>bnd (f Z) λa=>bnd (g Z) λl=>some (.ok (a::l))
theorem aO:MA K C uX bc:=λF H O Z Q r R e P=>by
 cases e;exact P [] F H (Up.refl R.rb.sub) .nil
theorem ao{f:Fn PV}{g:Fn (List PV)}{t:TA}(ha:MJ K C (aF K) ta f)(hb:MA K C t g):MA K C (jU ta t) (az f g):=by
 intro F H O Z Q r R e P;refine ha.run R e P λp v F1 H1 hk u a=>?_;refine hb.run (R.up u) hk (P.YW u) λl xs F2 H2 hk2 u2 b=>?_;cases hk2;exact P _ F2 H2 (u.trans u2) (b.cons (Rep.up a u2.ff))
theorem Af:MAL K C uX bc:=λF H O Z Q r R e P=>by
 cases e;exact P [] F H (Up.refl R.rb.sub) .nil
theorem gC{f:Fn PV}{g:Fn (List PV)}{t:TA}(ha:MJ K C (aH K) ta f)(hb:MAL K C t g):MAL K C (jU ta t) (az f g):=by
 intro F H O Z Q r R e P;refine ha.run R e P λp v F1 H1 hk u a=>?_;refine hb.run (R.up u) hk (P.YX u) λl xs F2 H2 hk2 u2 b=>?_;cases hk2;exact P _ F2 H2 (u.trans u2) (b.cons (Rep.up a u2.hh))
theorem Up.zW{F H:Hp}{a:Addr}{o:HO}(s:aU F H)(h:H a=none):Up F H F (upd H a o):=⟨aU.refl _,fj h,λ_ _ q=>.inl q,s.trans (fj h)⟩
theorem Up.new{F H:Hp}{a:Addr}{o:HO}(s:aU F H)(h:H a=none):Up F H (upd F a o) (upd H a o):=by
 have hf:F a=none:=s.free h;refine⟨fj hf,fj h,λb u q=>?_,λb u q=>?_⟩
 ·by_cases hb:b=a
  ·subst hb;exact .inr (.inl h)
  ·rw[aL hb] at q;exact .inl q
 ·by_cases hb:b=a
  ·subst hb;rw[aP] at q ⊢;exact q
  ·rw[aL hb] at q ⊢;exact s b u q
def nY(f:Fn (List PV)):Fn PV:=λZ=>bnd (f Z) λl=>if l.length<=sizeLine then some (.ok (.tup l)) else none
def u6(f:Fn (List PV)):Fn PV:=λZ=>bnd (f Z) λl=>if l.length<=sizeLine then some (.ok (.lst l)) else none
theorem fJ{t:TA}{f:Fn (List PV)}(h:MA K C t f):MJ K C (aF K) (Yy t) (nY f):=by
 intro F H O Z Q r R e P;refine h.run R e P λl xs F1 H1 hk u a=>?_;split at hk
 ·rename_i hl;cases hk;refine⟨by rw[a.1];exact hl,λp hp=>?_⟩
  have un:=Up.new (o:=.tup xs) u.fh hp;exact P _ _ _ (u.trans un) (.tup aP a.1 (a.up un.ff).2)
 ·cases hk
theorem lD{t:TA}{f:Fn (List PV)}(h:MA K C t f):MO K C (Yz t) (u6 f):=by
 intro F H O Z Q r R e P;refine h.run R e P λl xs F1 H1 hk u a=>?_;split at hk
 ·rename_i hl;cases hk;refine⟨by rw[a.1];exact hl,λp hp=>?_⟩
  exact P _ _ _ (u.trans (Up.zW u.fh hp)) (u.hh.free hp) (u.fh.free hp) ⟨xs,aP,a⟩
 ·cases hk
def spM(K:Frag)(XR:Hp->Value->Option Addr->PV->Prop)(m:List PV->Option (Res PV)):Sp:=λvs H Q E=>∃ ps F r,aU F H/\bR K F vs ps/\m ps=some r/\match r with
 |.ok p=>∀ v F' H',Up F H F' H'->Rep K F' v p->Q v H'
 |.ex z=>∀ e d F' H',Up F H F' H'->XR F' e d z->E e d H'
def spO(K:Frag)(XR:Hp->Value->Option Addr->PV->Prop)(m:List PV->Option (Res PV)):Sp:=λvs H Q E=>∃ ps F r,aU F H/\bR K F vs ps/\m ps=some r/\match r with
 |.ok p=>∀ a F' H',Up F H F' H'->H a=none->F' a=none->Own K F' H' a p->Q (.ref a) H'
 |.ex z=>∀ e d F' H',Up F H F' H'->XR F' e d z->E e d H'
def bC(m:List PV->Option (Res PV))(f:Fn (List PV)):Fn PV:=λZ=>bnd (f Z) m
theorem bG{t:TA}{f:Fn (List PV)}{m:List PV->Option (Res PV)}(h:MA K C t f):MJ K C (aF K) (wj (spM K C.XR m) [] C.E t) (bC m f):=by
 intro F H O Z Q r R e P;refine h.run R e P λl xs F1 H1 hk u a=>?_;refine⟨l,F1,r,u.fh,by rw[Za1];exact a,hk,?_⟩
 cases r with
 |ok p=>exact λv F' H' u' rv=>P v F' H' (u.trans u') rv
 |ex z=>exact λe d F' H' u' x=>P e d F' H' (u.trans u').ff (R.rb.up (u.trans u')) x
theorem dm{t:TA}{f:Fn (List PV)}{m:List PV->Option (Res PV)}(h:MA K C t f):MO K C (wj (spO K C.XR m) [] C.E t) (bC m f):=by
 intro F H O Z Q r R e P;refine h.run R e P λl xs F1 H1 hk u a=>?_;refine⟨l,F1,r,u.fh,by rw[Za1];exact a,hk,?_⟩
 cases r with
 |ok p=>exact λv F' H' u' n1 n2 rv=>P v F' H' (u.trans u') (u.hh.free n1) n2 rv
 |ex z=>exact λe d F' H' u' x=>P e d F' H' (u.trans u').ff (R.rb.up (u.trans u')) x
def Hg(m:List PV->Option (Res PV))(f:Fn (List PV)):Fn PV:=λZ=>bnd (f Z) λl=>match m l with
 |some (.ok p)=>if p.flat=true then some (.ok p) else none
 |_=>none
theorem Tp{t:TA}{f:Fn (List PV)}{m:List PV->Option (Res PV)}(h:MAL K C t f):MJ K C (aF K) (wj (spM K C.XR m) [] C.E t) (Hg m f):=by
 intro F H O Z Q r R e P;refine h.run R e P λl xs F1 H1 hk u a=>?_;split at hk
 ·rename_i p hp;split at hk
  ·rename_i hf;cases hk;refine⟨l,H1,.ok p,aU.refl _,by rw[Za1];exact a,hp,λv F' H' u' rv=>?_⟩
   exact P v F1 H' (u.trans ⟨aU.refl _,u'.hh,λ_ _ q=>.inl q,u.fh.trans u'.hh⟩) (Rep.free rv hf)
  ·cases hk
 ·cases hk
end
inductive Out where
 |nx (Z:Rho)|rt (p:PV)|ro (p:PV)|rd (p:PV)|bk (Z:Rho)|ct (Z:Rho)|ex (z:PV)
noncomputable abbrev Sn:=Rho->Option Out
def PO'(K:Frag)(C:Cg)(F:Hp)(D:Ends):Out->Prop
 |.nx Z=>∀ F' H' O,aU F F'->RE K C.toCf F' H' O Z->D.nx O H'
 |.bk Z=>∀ F' H' O,aU F F'->RE K C.toCf F' H' O Z->D.bk O H'
 |.ct Z=>∀ F' H' O,aU F F'->RE K C.toCf F' H' O Z->D.ct O H'
 |.rt p=>∀ v F' H',aU F F'->RB C.toCf F' H'->Rep K F' v p->D.rt v H'
 |.ro p=>∀ a F' H',aU F F'->RB C.toCf F' H'->Own K F' H' a p->F' a=none->C.H0 a=none->D.rt (.ref a) H'
 |.rd p=>∀ v F' H' S,aU F F'->RB C.toCf F' H'->Dp K F' H' S v p->(∀ b,S b->F' b=none/\(∃ o,H' b=some o/\∀ ys,o≠.tup ys)/\C.H0 b=none)->D.rt v H'
 |.ex z=>PX C F z
def MS(K:Frag)(C:Cg)(t:TS)(f:Sn):Prop:=∀ F H O Z D o,RE K C.toCf F H O Z->f Z=some o->PO' K C F D o->t D O H
def gw{α:Type}(x:Option (Res α))(k:α->Option Out):Option Out:=match x with
 |some (.ok a)=>k a
 |some (.ex z)=>some (.ex z)
 |none=>none
theorem Wj{α:Type}{a:α}{k:α->Option Out}:gw (some (.ok a)) k=k a:=rfl
theorem dg{α:Type}{x:Option (Res α)}{k:α->Option Out}{o:Out}(h:gw x k=some o):(∃ z,x=some (.ex z)/\o=.ex z)\/∃ a,x=some (.ok a)/\k a=some o:=by
 match x,h with
 |some (.ok a),h=>exact .inr ⟨a,rfl,h⟩
 |some (.ex z),h=>exact .inl ⟨z,rfl,(Zaf h).symm⟩
section
variable{K:Frag}{C:Cg}{α:Type}{A:Rel α}{ta te:TE}{F H:Hp}{O:St}{Z:Rho}{D:Ends}{t u:TS}{f g:Sn}{o:Out}
theorem PO'.up{F1:Hp}(h:PO' K C F D o)(s:aU F F1):PO' K C F1 D o:=by
 cases o with
 |nx Z=>exact λF' H' O a=>h F' H' O (s.trans a)
 |bk Z=>exact λF' H' O a=>h F' H' O (s.trans a)
 |ct Z=>exact λF' H' O a=>h F' H' O (s.trans a)
 |rt p=>exact λv F' H' a=>h v F' H' (s.trans a)
 |ro p=>exact λv F' H' a=>h v F' H' (s.trans a)
 |rd p=>exact λv F' H' S a=>h v F' H' S (s.trans a)
 |ex z=>exact PX.up h s
theorem MJ.u9{fe:Fn α}{Q:VK}{k:α->Option Out}(h:MJ K C A ta fe)(R:RE K C.toCf F H O Z)(hb:gw (fe Z) k=some o)(P:PO' K C F D o)
  (go:∀ p v F1 H1,k p=some o->Up F H F1 H1->A F1 H1 v p->Q v H1):ta O H Q:=by
 rcases dg hb with⟨z,e,rfl⟩|⟨p,e,hk⟩
 ·exact h F H O Z Q _ R e P
 ·exact h F H O Z Q _ R e λv F1 H1 u a=>go p v F1 H1 hk u a
theorem MO.u9{fe:Fn PV}{Q:VK}{k:PV->Option Out}(h:MO K C ta fe)(R:RE K C.toCf F H O Z)(hb:gw (fe Z) k=some o)(P:PO' K C F D o)
  (go:∀ p a F1 H1,k p=some o->Up F H F1 H1->H a=none->F1 a=none->Own K F1 H1 a p->Q (.ref a) H1):ta O H Q:=by
 rcases dg hb with⟨z,e,rfl⟩|⟨p,e,hk⟩
 ·exact h F H O Z Q _ R e P
 ·exact h F H O Z Q _ R e λa F1 H1 u n1 n2 w=>go p a F1 H1 hk u n1 n2 w
theorem MT.u9{tt:TT}{fe:Fn Bool}{Q:Bool->Hp->Prop}{k:Bool->Option Out}(h:MT K C tt fe)(R:RE K C.toCf F H O Z)(hb:gw (fe Z) k=some o)(P:PO' K C F D o)
  (go:∀ b F1 H1,k b=some o->Up F H F1 H1->Q b H1):tt O H Q:=by
 rcases dg hb with⟨z,e,rfl⟩|⟨p,e,hk⟩
 ·exact h F H O Z Q _ R e P
 ·exact h F H O Z Q _ R e λF1 H1 u=>go p F1 H1 hk u
def d8:Sn:=λZ=>some (.nx Z)
def aY(f g:Sn):Sn:=λZ=>match f Z with
 |some (.nx Z')=>g Z'
 |x=>x
theorem cC:MS K C Xm d8:=λF H O Z D o R e P=>by
 cases e;exact P F H O (aU.refl _) R
theorem aM(h1:MS K C t f)(h2:MS K C u g):MS K C (Yq t u) (aY f g):=by
 intro F H O Z D o R e P;unfold aY at e;split at e
 ·rename_i Z' h;refine h1 F H O Z _ _ R h ?_;exact λF' H' O' s R'=>h2 F' H' O' Z' D o R' e (P.up s)
 ·rename_i x hx;cases o with
  |nx Z'=>exact absurd e (hx Z')
  |bk Z=>exact h1 F H O _ _ _ R e P
  |ct Z=>exact h1 F H O _ _ _ R e P
  |rt p=>exact h1 F H O _ _ _ R e P
  |ro p=>exact h1 F H O _ _ _ R e P
  |rd p=>exact h1 F H O _ _ _ R e P
  |ex z=>exact h1 F H O _ _ _ R e P
def Ou:Sn:=λZ=>some (.ct Z)
theorem Ov:MS K C Xn Ou:=λF H O Z D o R e P=>by
 cases e;exact P F H O (aU.refl _) R
def MG(K:Frag)(C:Cg)(g:TG)(tg:PV->Rho->Option Rho):Prop:=
 ∀ F H O Z v p Z' Q,RE K C.toCf F H O Z->Rep K F v p->tg p Z=some Z'->(∀ O',RE K C.toCf F H O' Z'->Q O' H)->g v O H Q
def MGs(K:Frag)(C:Cg)(g:TGs)(tg:List PV->Rho->Option Rho):Prop:=
 ∀ F H O Z vs ps Z' Q,RE K C.toCf F H O Z->bR K F vs ps->tg ps Z=some Z'->(∀ O',RE K C.toCf F H O' Z'->Q O' H)->g vs O H Q
def gN(i:Nat):PV->Rho->Option Rho:=λp Z=>some (Z.set i (some (.sh p)))
theorem aN(i:Nat):MG K C (zj i) (gN i):=λF H O Z v p Z' Q R r e k=>by
 cases e;exact k _ (R.set i r)
def gsNil:List PV->Rho->Option Rho
 |[],Z=>some Z
 |_::_,_=>none
def gsCons(t:PV->Rho->Option Rho)(u:List PV->Rho->Option Rho):List PV->Rho->Option Rho
 |[],_=>none
 |p::l,Z=>match t p Z with
  |some Z'=>u l Z'
  |none=>none
theorem oh:MGs K C R5 gsNil:=λF H O Z vs ps Z' Q R r e k=>by
 cases ps with
 |nil=>cases e;exact⟨r.jD,k O R⟩
 |cons p l=>cases e
theorem dF{g:TG}{gs:TGs}{tg:PV->Rho->Option Rho}{tgs:List PV->Rho->Option Rho}(h:MG K C g tg)(hs:MGs K C gs tgs):MGs K C (Xo g gs) (gsCons tg tgs):=λF H O Z vs ps Z' Q R r e k=>by
 cases ps with
 |nil=>cases e
 |cons p l=>
  obtain⟨v,ys,rfl,r1,r2⟩:=r.dD;have e':(match tg p Z with
   |some Z'=>tgs l Z'
   |none=>none)=some Z':=e
  split at e'
  ·rename_i ρ1 h1;exact⟨v,ys,rfl,h F H O Z v p ρ1 _ R r1 h1 λO' R'=>hs F H O' ρ1 ys l Z' Q R' r2 e' k⟩
  ·cases e'
def gT(n:Nat)(t:List PV->Rho->Option Rho):PV->Rho->Option Rho:=λp Z=>match p with
 |.tup l=>if l.length=n then t l Z else none
 |_=>none
theorem rC{n:Nat}{gs:TGs}{tgs:List PV->Rho->Option Rho}(hs:MGs K C gs tgs):MG K C (Yr K n gs) (gT n tgs):=λF H O Z v p Z' Q R r e k=>by
 unfold gT at e;split at e
 ·rename_i l;split at e
  ·rename_i hn;obtain⟨a,xs,rfl,hq,rr⟩:=r.dh;exact⟨a,xs,rfl,R.rb.sub.tup hq,by rw[rr.1];exact hn,hs F H O Z xs l Z' Q R rr e k⟩
  ·cases e
 ·cases e
def cN(fe:Fn PV)(tg:PV->Rho->Option Rho):Sn:=λZ=>gw (fe Z) λp=>match tg p Z with
 |some Z'=>some (.nx Z')
 |none=>none
theorem bF{fe:Fn PV}{gt:TG}{tg:PV->Rho->Option Rho}(h:MJ K C (aF K) te fe)(hg:MG K C gt tg):MS K C (QH te gt) (cN fe tg):=by
 intro F H O Z D o R e P;refine h.u9 R e P λp v F1 H1 hk u a=>?_;split at hk
 ·rename_i Z' h1;cases hk;exact hg F1 H1 O Z v p Z' _ (R.up u) a h1 λO' R'=>P F1 H1 O' u.ff R'
 ·cases hk
def gD(i:Nat)(fe:Fn PV):Sn:=λZ=>gw (fe Z) λp=>some (.nx (Z.set i (some (.ow p))))
theorem dq{i:Nat}{fe:Fn PV}(nw:C.nw)(h:MO K C te fe):MS K C (QH te (zj i)) (gD i fe):=by
 intro F H O Z D o R e P;refine h.u9 R e P λp a F1 H1 hk u n1 n2 w=>?_;cases hk;exact P F1 H1 _ u.ff ((R.up u).aaN i w n2 nw (R.rb.wK n1) (λj q hj _=>R.apart n1 j q hj) (R.YT n1 u))
def fu(fe:Fn PV):Sn:=λZ=>gw (fe Z) λp=>some (.rt p)
theorem bZ{fe:Fn PV}(h:MJ K C (aF K) te fe):MS K C (QG te) (fu fe):=by
 intro F H O Z D o R e P;refine h.u9 R e P λp v F1 H1 hk u a=>?_;cases hk;exact P v F1 H1 u.ff (R.rb.up u) a
def uw(fe:Fn PV):Sn:=λZ=>gw (fe Z) λp=>some (.ro p)
theorem qg{fe:Fn PV}(h:MO K C te fe):MS K C (QG te) (uw fe):=by
 intro F H O Z D o R e P;refine h.u9 R e P λp a F1 H1 hk u n1 n2 w=>?_;cases hk;exact P a F1 H1 u.ff (R.rb.up u) w n2 (R.rb.wK n1)
def ownAt(i:Nat)(Z:Rho):Option PV:=match Z[i]? with
 |some (some (.ow p))=>some p
 |_=>none
theorem bO{i:Nat}{p:PV}(h:ownAt i Z=some p):Z[i]?=some (some (.ow p)):=by
 unfold ownAt at h;split at h
 ·rename_i q hq;cases h;exact hq
 ·cases h
def lE(i:Nat):Sn:=λZ=>match ownAt i Z with
 |some p=>some (.ro p)
 |none=>none
theorem mZ(i:Nat)(hio:∀ a,¬C.io a):MS K C (QG (mj i)) (lE i):=by
 intro F H O Z D o R e P;unfold lE at e;split at e
 ·rename_i p hp;cases e;obtain⟨a,e1,e2,e3,e4⟩:=R.ow i p (bO hp);exact⟨_,e1,P a F H (aU.refl _) R.rb e2 e3 (e4.resolve_left (hio a)).2⟩
 ·cases e
def zX(i:Nat)(fe:Fn PV):Sn:=λZ=>match ownAt i Z with
 |some (.lst l)=>gw (fe Z) λp=>if l.length<sizeLine then some (.nx (Z.set i (some (.ow (.lst (l++[p])))))) else none
 |_=>none
theorem vd{i:Nat}{fe:Fn PV}(h:MJ K C (aF K) te fe):MS K C (Ax (tBM K "list" wu (mj i) (jU te uX))) (zX i fe):=by
 intro F H O Z D o R e P;unfold zX at e;split at e
 ·rename_i l hl;obtain⟨a,g1,⟨xs,g2,g3⟩,g4,g5⟩:=R.ow i _ (bO hl);refine⟨_,g1,tyL g2,h.u9 R e P λp v F1 H1 hk u w=>?_⟩;split at hk
  ·rename_i hlen;cases hk;obtain⟨a',k1,⟨ys,k2,k3⟩,k4,k5⟩:=(R.up u).ow i _ (bO hl);rw[g1] at k1;cases k1;refine⟨a,ys,v,rfl,rfl,k2,by rw[k3.1];exact hlen,?_⟩
   exact P F1 _ O u.ff ((R.up u).write (bO hl) g1 ⟨_,aP,k3.snoc w⟩)
  ·cases hk
 ·cases e
def iG(fc:Fn Bool)(f g:Sn):Sn:=λZ=>gw (fc Z) λb=>if b=true then f Z else g Z
theorem dZ{c:TT}{fc:Fn Bool}(hc:MT K C c fc)(h1:MS K C t f)(h2:MS K C u g):MS K C (ZV c t u) (iG fc f g):=by
 intro F H O Z D o R e P;refine hc.u9 R e P λb F1 H1 hk uu=>?_;cases b with
 |true=>rw[Zan rfl] at hk ⊢;exact h1 F1 H1 O Z D o (R.up uu) hk (P.up uu.ff)
 |false=>rw[Zam (by decide)] at hk ⊢;exact h2 F1 H1 O Z D o (R.up uu) hk (P.up uu.ff)
structure ItR(K:Frag)(J:It)(F:Hp)(l:List PV):Prop where
 stop:∀ F' H',aU F F'->aU F' H'->J.stop l.length H'
 go:∀ i F' H',i<l.length->aU F F'->aU F' H'->J.go i H'
 yld:∀ i F' H' x H'',i<l.length->aU F F'->aU F' H'->J.yld i H' x H''->∃ F'' p,Up F' H' F'' H''/\l[i]?=some p/\Rep K F'' x p
def MI(K:Frag)(C:Cg)(wi:TI)(f:Fn (List PV)):Prop:=
 ∀ F H O Z R' r,RE K C.toCf F H O Z->f Z=some r->Pr C F (λl=>∀ J F' H',Up F H F' H'->ItR K J F' l->R' J H') r->wi O H R'
def loop(tg:PV->Rho->Option Rho)(body:Sn):List PV->Rho->Option Out
 |[],Z=>some (.nx Z)
 |x::xs,Z=>match tg x Z with
  |none=>none
  |some ρ1=>match body ρ1 with
   |some (.nx ρ2)=>loop tg body xs ρ2
   |some (.ct ρ2)=>loop tg body xs ρ2
   |some (.bk ρ2)=>some (.nx ρ2)
   |x=>x
def ph(it:Fn (List PV))(tg:PV->Rho->Option Rho)(body:Sn):Sn:=λZ=>gw (it Z) λl=>loop tg body l Z
theorem FJ{J:It}{gt:TG}{tg:PV->Rho->Option Rho}{l:List PV}(hg:MG K C gt tg)(hb:MS K C t f)(hJ:ItR K J F l)(R:RE K C.toCf F H O Z)(e:loop tg f l Z=some o)(P:PO' K C F D o):aaL J gt t D O H:=by
 refine⟨λi m O' H'=>∃ F' Z',m=l.length-i/\i<=l.length/\aU F F'/\RE K C.toCf F' H' O' Z'/\loop tg f (l.drop i) Z'=some o,⟨l.length,F,Z,by simp,Za7 _,aU.refl _,R,by rw[ZcN];exact e⟩,?_⟩
 rintro i m O' H' ⟨F',Z',rfl,hi,s,R',e'⟩;by_cases hlt:i<l.length
 ·refine .inr ⟨hJ.go i F' H' hlt s R'.rb.sub,λσ2 H2=>∃ F2 ρ2,aU F F2/\RE K C.toCf F2 H2 σ2 ρ2/\loop tg f (l.drop (i+1)) ρ2=some o,λσ2 H2 ⟨F2,ρ2,s2,R2,e2⟩=>⟨l.length-(i+1),by omega,F2,ρ2,rfl,hlt,s2,R2,e2⟩,λx H'' y=>?_⟩
  obtain⟨F'',p,u,ep,rx⟩:=hJ.yld i F' H' x H'' hlt s R'.rb.sub y;have ed:l.drop i=p::l.drop (i+1):=by
   rw[ZbQ hlt];rw[Zae hlt] at ep;rw[Zaf ep]
  rw[ed,loop] at e';split at e'
  ·cases e'
  ·rename_i ρ1 h1;refine hg F'' H'' O' Z' x p ρ1 _ (R'.up u) rx h1 λσ1 R1=>?_;have sF:aU F F'':=s.trans u.ff;split at e'
   ·rename_i ρ2 h2;exact hb F'' H'' σ1 ρ1 _ _ R1 h2 λF3 H3 σ3 s3 R3=>⟨F3,ρ2,sF.trans s3,R3,e'⟩
   ·rename_i ρ2 h2;exact hb F'' H'' σ1 ρ1 _ _ R1 h2 λF3 H3 σ3 s3 R3=>⟨F3,ρ2,sF.trans s3,R3,e'⟩
   ·rename_i ρ2 h2;cases e';exact hb F'' H'' σ1 ρ1 _ _ R1 h2 λF3 H3 σ3 s3 R3=>P F3 H3 σ3 (sF.trans s3) R3
   ·rename_i n1 n2 n3;cases o with
    |nx ρ2=>exact absurd e' (n1 ρ2)
    |ct ρ2=>exact absurd e' (n2 ρ2)
    |bk ρ2=>exact absurd e' (n3 ρ2)
    |rt p=>exact hb F'' H'' σ1 ρ1 _ _ R1 e' (PO'.up (D:=D) P sF)
    |ro p=>exact hb F'' H'' σ1 ρ1 _ _ R1 e' (PO'.up (D:=D) P sF)
    |rd p=>exact hb F'' H'' σ1 ρ1 _ _ R1 e' (PO'.up (D:=D) P sF)
    |ex z=>exact hb F'' H'' σ1 ρ1 _ _ R1 e' (PX.up P sF)
 ·have ei:i=l.length:=by omega
  subst ei;rw[ZcY] at e';cases e';exact .inl ⟨hJ.stop F' H' s R'.rb.sub,P F' H' O' s R'⟩
theorem iH{wi:TI}{it:Fn (List PV)}{gt:TG}{tg:PV->Rho->Option Rho}(hi:MI K C wi it)(hg:MG K C gt tg)(hb:MS K C t f):MS K C (Ys wi gt t) (ph it tg f):=by
 intro F H O Z D o R e P;rcases dg e with⟨z,e1,rfl⟩|⟨l,e1,hk⟩
 ·exact hi F H O Z _ _ R e1 P
 ·exact hi F H O Z _ _ R e1 λJ F' H' u hJ=>FJ hg hb hJ (R.up u) hk (P.up u.ff)
def m5(fc:Fn Bool)(body:Sn):Nat->Rho->Option Out
 |0,_=>none
 |n+1,Z=>gw (fc Z) λb=>if b=true then(match body Z with
   |some (.nx ρ2)=>m5 fc body n ρ2
   |some (.ct ρ2)=>m5 fc body n ρ2
   |some (.bk ρ2)=>some (.nx ρ2)
   |x=>x) else some (.nx Z)
theorem Jx{c:TT}{fc:Fn Bool}(n:Nat)(hc:MT K C c fc)(hb:MS K C t f):MS K C (Mg c t) (m5 fc f n):=by
 intro F H O Z D o R e P;refine⟨λm O' H'=>∃ F' Z',aU F F'/\RE K C.toCf F' H' O' Z'/\m5 fc f m Z'=some o,⟨n,F,Z,aU.refl _,R,e⟩,?_⟩;rintro m O' H' ⟨F',Z',s,R',e'⟩;cases m with
 |zero=>cases e'
 |succ m=>
  refine hc.u9 R' e' (P.up s) λb F1 H1 hk u=>?_;have sF:aU F F1:=s.trans u.ff;have R1:=R'.up u;cases b with
  |false=>
   rw[Zam (by decide)] at hk ⊢
   cases hk;exact P F1 H1 O' sF R1
  |true=>
   rw[Zan rfl] at hk ⊢;refine⟨λσ2 H2=>∃ F2 ρ2,aU F F2/\RE K C.toCf F2 H2 σ2 ρ2/\m5 fc f m ρ2=some o,λσ2 H2 ⟨F2,ρ2,s2,R2,e2⟩=>⟨m,ZcX _,F2,ρ2,s2,R2,e2⟩,?_⟩;split at hk
   ·rename_i ρ2 h2;exact hb F1 H1 O' Z' _ _ R1 h2 λF3 H3 σ3 s3 R3=>⟨F3,ρ2,sF.trans s3,R3,hk⟩
   ·rename_i ρ2 h2;exact hb F1 H1 O' Z' _ _ R1 h2 λF3 H3 σ3 s3 R3=>⟨F3,ρ2,sF.trans s3,R3,hk⟩
   ·rename_i ρ2 h2;cases hk;exact hb F1 H1 O' Z' _ _ R1 h2 λF3 H3 σ3 s3 R3=>P F3 H3 σ3 (sF.trans s3) R3
   ·rename_i n1 n2 n3;cases o with
    |nx ρ2=>exact absurd hk (n1 ρ2)
    |ct ρ2=>exact absurd hk (n2 ρ2)
    |bk ρ2=>exact absurd hk (n3 ρ2)
    |rt p=>exact hb F1 H1 O' Z' _ _ R1 hk (PO'.up (D:=D) P sF)
    |ro p=>exact hb F1 H1 O' Z' _ _ R1 hk (PO'.up (D:=D) P sF)
    |rd p=>exact hb F1 H1 O' Z' _ _ R1 hk (PO'.up (D:=D) P sF)
    |ex z=>exact hb F1 H1 O' Z' _ _ R1 hk (PX.up P sF)
end
def eqL(f:PV->PV->Option Bool):List PV->List PV->Option Bool
 |[],[]=>some true
 |[],_::_=>some false
 |_::_,[]=>some false
 |x::xs,y::ys=>match f x y,eqL f xs ys with
  |some a,some b=>some (a&&b)
  |_,_=>none
def eqF:Nat->PV->PV->Option Bool
 |_,.non,.non=>some true
 |_,.non,.bl _=>some false
 |_,.non,.int _=>some false
 |_,.non,.str _=>some false
 |_,.bl _,.non=>some false
 |_,.bl a,.bl b=>some (decide (a=b))
 |_,.bl _,.str _=>some false
 |_,.int _,.non=>some false
 |_,.int a,.int b=>some (decide (a=b))
 |_,.int _,.str _=>some false
 |_,.str _,.non=>some false
 |_,.str _,.bl _=>some false
 |_,.str _,.int _=>some false
 |_,.str a,.str b=>some (decide (a=b))
 |_,.non,.tup _=>some false
 |_,.tup _,.non=>some false
 |_,.non,.lst _=>some false
 |_,.lst _,.non=>some false
 |_,.int _,.tup _=>some false
 |_,.tup _,.int _=>some false
 |_,.str _,.tup _=>some false
 |_,.tup _,.str _=>some false
 |_,.int _,.lst _=>some false
 |_,.lst _,.int _=>some false
 |_,.str _,.lst _=>some false
 |_,.lst _,.str _=>some false
 |_,.lst _,.tup _=>some false
 |_,.tup _,.lst _=>some false
 |n+1,.tup l,.tup m=>eqL (eqF n) l m
 |n+1,.lst l,.lst m=>if l.length=m.length then eqL (eqF n) l m else some false
 |_,_,_=>none
theorem rD{f:PV->PV->Option Bool}(h:∀ p r,f p p=some r->r=true):∀ {l:List PV}{r:Bool},eqL f l l=some r->r=true
 |[],r,e=>by cases e;rfl
 |x::xs,r,e=>by
  rw[eqL] at e;split at e
  ·rename_i a b h1 h2;cases e;rw[h x a h1,rD h h2];rfl
  ·cases e
theorem Jy:∀ (n:Nat) (p:PV) (r:Bool),eqF n p p=some r->r=true
 |n,p,r,e=>by
  induction n generalizing p r with
  |zero=>cases p<;>first|(cases (show some true=some r from e);rfl)|(cases (show some (decide _)=some r from e);exact ZaF rfl)|cases (show none=some r from e)
  |succ n ih=>
   cases p with
   |tup l=>exact rD ih e
   |lst l=>
    have e:(if l.length=l.length then eqL (eqF n) l l else some false)=some r:=e;rw[Zan rfl] at e;exact rD ih e
   |_=>first|(cases (show some true=some r from e);rfl)|(cases (show some (decide _)=some r from e);exact ZaF rfl)|cases (show none=some r from e)
theorem Hh{f:PV->PV->Option Bool}:∀ {l m:List PV}{r:Bool},eqL f l m=some r->∃ e:Nat->Bool,(∀ (j:Nat) x y,l[j]?=some x->m[j]?=some y->f x y=some (e j))/\r=((List.range (min l.length m.length)).all e&&l.length==m.length)
 |[],[],r,h=>⟨λ_=>true,λj x y a=>by simp at a,by cases h;rfl⟩
 |[],_::_,r,h=>⟨λ_=>true,λj x y a=>by simp at a,by cases h;simp⟩
 |_::_,[],r,h=>⟨λ_=>true,λj x y _ a=>by simp at a,by cases h;simp⟩
 |x::xs,y::ys,r,h=>by
  rw[eqL] at h;split at h
  ·rename_i a b h1 h2;cases h;obtain⟨e,e1,e2⟩:=Hh h2;refine⟨λj=>match j with|0=>a|j+1=>e j,λj x' y' a' b'=>?_,?_⟩
   ·cases j with
    |zero=>simp at a' b';subst a' b';exact h1
    |succ j=>exact e1 j x' y' (by simpa using a') (by simpa using b')
   ·rw[e2,ZaQ,ZaQ,Nat.succ_min_succ,List.range_succ_eq_map,List.all_cons,List.all_map];have:((xs.length+1==ys.length+1):Bool)=(xs.length==ys.length):=by
     rw[Zb6];simp
    rw[this];cases a<;>simp[Function.comp_def]
  ·cases h
section
variable{X:Cx}{pins:List (Addr×Obj)}{O:St}{H:Hp}{s:Shared}
theorem Rep.kinds(I:Inv X pins O H s){a:Addr}{xs ys:List V}(h1:SqL X.K H a xs)(h2:SqT X.K H a ys):False:=by
 obtain⟨_,_,p1,_⟩:=I.list h1;obtain⟨_,_,p2,_⟩:=I.tuple h2;obtain⟨o,n,e,c,_⟩:=p1;obtain⟨o',e',c',_⟩:=p2;rw[e] at e';cases e';rw[c] at c';exact absurd c' (by decide)
theorem Jz{xs:List V}{l m:List PV}(h1:xs.length=l.length)(h2:xs.length=m.length)(h:∀ (j:Nat) x p q,xs[j]?=some x->l[j]?=some p->m[j]?=some q->p=q):l=m:=by
 apply ZbE
 intro j;by_cases hj:j<xs.length
 ·have hl:j<l.length:=by lia
  have hm:j<m.length:=by lia
  rw[Zae hl,Zae hm,h j xs[j] l[j] m[j] (by simp[hj]) (by simp[hl]) (by simp[hm])]
 ·rw[ZaR (by lia),ZaR (by lia)]
def HO.isDict:HO->Bool
 |.dK _=>true
 |.dT _=>true
 |_=>false
theorem Wl{H:Hp}{a:Addr}{u v:HO}(hu:HO.isDict u=true)(hv:HO.isDict v=true)(h:Rd H a u)(h':Rd H a v):u=v:=by
 rcases h with h|⟨o,h⟩<;>rcases h' with h'|⟨o',h'⟩<;>rw[h] at h'<;>cases h'
 ·rfl
 ·cases hu
 ·cases hv
 ·rfl
theorem Hi{H:Hp}{a:Addr}{u v:HO}(h:Rd H a u)(h':Rd H a v)(hu:HO.isDict u=true:=by rfl)(hv:HO.isDict v=true:=by rfl):u=v:=Wl hu hv h h'
theorem Rep.noDict(I:Inv X pins O H s){a:Addr}{ks:List (Key×V)}{ts:List (List Key×V)}(h1:Rd H a (.dK ks)\/Rd H a (.dT ts))(h2:(∃ xs,SqL X.K H a xs)\/∃ xs,SqT X.K H a xs):False:=by
 have d:∃ o es ep,s.heap.get? a=some o/\o.data=.dict es ep:=by
  rcases h1 with h1|h1
  ·obtain⟨_,_,_,_,o,es,ep,e,x,d,_⟩:=h1.ok I.hok;exact⟨o,es,ep,e,d⟩
  ·obtain⟨_,_,_,_,o,es,ep,e,x,d,_⟩:=h1.ok I.hok;exact⟨o,es,ep,e,d⟩
 obtain⟨o,es,ep,e,d⟩:=d;rcases h2 with⟨xs,h2⟩|⟨xs,h2⟩
 ·obtain⟨_,_,p1,_⟩:=I.list h2;obtain⟨o',n,e',_,_,d'⟩:=p1;rw[e] at e';cases e';rw[d] at d';cases d'
 ·obtain⟨_,_,p1,_⟩:=I.tuple h2;obtain⟨o',e',_,n,d'⟩:=p1;rw[e] at e';cases e';rw[d] at d';cases d'
theorem XO.at(I:Inv X pins O H s){a C:Addr}{d:Option Addr}(h:H a=some (XO a C d)):∃ vs:Array Value,s.heap.get? a=some { cls:=.ref C,dict:=d,data:=.fields vs }:=(I.hok _ _ h).1
theorem XO.inj(I:Inv X pins O H s){a C C':Addr}{d d':Option Addr}(h:H a=some (XO a C d))(h':H a=some (XO a C' d')):C=C'/\d=d':=by
 obtain⟨vs,e⟩:=XO.at I h;obtain⟨vs',e'⟩:=XO.at I h';rw[e] at e';cases e';exact⟨rfl,rfl⟩
theorem XO.noSeq(I:Inv X pins O H s){a C:Addr}{d:Option Addr}(h:H a=some (XO a C d))(h2:(∃ xs,SqL X.K H a xs)\/∃ xs,SqT X.K H a xs):False:=by
 obtain⟨vs,e⟩:=XO.at I h;rcases h2 with⟨xs,h2⟩|⟨xs,h2⟩
 ·obtain⟨_,_,p1,_⟩:=I.list h2;obtain⟨o',n,e',_,_,d'⟩:=p1;rw[e] at e';cases e';cases d'
 ·obtain⟨_,_,p1,_⟩:=I.tuple h2;obtain⟨o',e',_,n,d'⟩:=p1;rw[e] at e';cases e';cases d'
theorem XNm.inj{K:Frag}{C:Addr}{c c':Str}(a:XNm K C c)(b:XNm K C c'):c=c':=by
 obtain⟨cd,h1,h2⟩:=a.cl;obtain⟨cd',h1',h2'⟩:=b.cl;rw[h1] at h1';cases h1';exact h2.symm.trans h2'
theorem Rep.inj(I:Inv X pins O H s){x:V}{p:PV}(h:Rep X.K H x p):∀ {q:PV},Rep X.K H x q->p=q:=by
 have pairs:∀ {κ:Type}{xs:List (κ×V)}{l m:List (κ×PV)},xs.map (·.1)=l.map (·.1)->xs.map (·.1)=m.map (·.1)->(∀ (j:Nat) x p q,xs[j]?=some x->l[j]?=some p->m[j]?=some q->p.2=q.2)->l=m:=by
  intro κ xs l m h1 h2 h3;have l1:xs.length=l.length:=by simpa using Za3 List.length h1
  have l2:xs.length=m.length:=by simpa using Za3 List.length h2
  apply ZbE
  intro j;by_cases hj:j<xs.length
  ·have hl:j<l.length:=by lia
   have hm:j<m.length:=by lia
   rw[Zae hl,Zae hm];have k:=Za3 (·[j]?) (h1.symm.trans h2);simp[hl,hm] at k;have v:=h3 j xs[j] l[j] m[j] (by simp[hj]) (by simp[hl]) (by simp[hm])
   rw[Zc7 k v]
  ·rw[ZaR (by lia),ZaR (by lia)]
 induction h with
 |non=>intro q h';cases h';rfl
 |bl=>intro q h';cases h';rfl
 |int=>intro q h';cases h';rfl
 |str=>intro q h';cases h';rfl
 |ty=>intro q h';cases h';rfl
 |@tup a xs l h hl _ ih=>
  intro q h';have h:=SqT.of (K:=X.K) h;cases h' with
  |tup h2 hl2 hr2=>
   cases I.Fg h (SqT.of (K:=X.K) h2);rw[Jz hl hl2 λj x p q e1 e2 e3=>ih j x p e1 e2 (hr2 j x q e1 e3)]
  |lst h2=>exact(Rep.kinds I h2 h).elim
  |dk h2=>exact(Rep.noDict I (ts:=[]) (.inl h2) (.inr ⟨_,h⟩)).elim
  |dt h2=>exact(Rep.noDict I (ks:=[]) (.inr h2) (.inr ⟨_,h⟩)).elim
  |exc _ h2=>exact(XO.noSeq I h2 (.inr ⟨_,h⟩)).elim
  |exc0 _ h2=>exact(XO.noSeq I h2 (.inr ⟨_,h⟩)).elim
 |@lst a xs l h hl _ ih=>
  intro q h';cases h' with
  |tup h2=>exact(Rep.kinds I h (SqT.of h2)).elim
  |lst h2 hl2 hr2=>
   cases I.qW h h2;rw[Jz hl hl2 λj x p q e1 e2 e3=>ih j x p e1 e2 (hr2 j x q e1 e3)]
  |dk h2=>exact(Rep.noDict I (ts:=[]) (.inl h2) (.inl ⟨_,h⟩)).elim
  |dt h2=>exact(Rep.noDict I (ks:=[]) (.inr h2) (.inl ⟨_,h⟩)).elim
  |exc _ h2=>exact(XO.noSeq I h2 (.inl ⟨_,h⟩)).elim
  |exc0 _ h2=>exact(XO.noSeq I h2 (.inl ⟨_,h⟩)).elim
 |@dk a xs l h hl _ ih=>
  intro q h';cases h' with
  |tup h2=>exact(Rep.noDict I (ts:=[]) (.inl h) (.inr ⟨_,SqT.of h2⟩)).elim
  |lst h2=>exact(Rep.noDict I (ts:=[]) (.inl h) (.inl ⟨_,h2⟩)).elim
  |dk h2 hl2 hr2=>
   cases (Hi h h2);rw[pairs hl hl2 λj x p q e1 e2 e3=>ih j x p e1 e2 (hr2 j x q e1 e3)]
  |dt h2=>cases Hi h h2
  |exc _ h2=>rcases h with h|⟨o,h⟩<;>rw[h] at h2<;>cases h2
  |exc0 _ h2=>rcases h with h|⟨o,h⟩<;>rw[h] at h2<;>cases h2
 |@dt a xs l h hl _ ih=>
  intro q h';cases h' with
  |tup h2=>exact(Rep.noDict I (ks:=[]) (.inr h) (.inr ⟨_,SqT.of h2⟩)).elim
  |lst h2=>exact(Rep.noDict I (ks:=[]) (.inr h) (.inl ⟨_,h2⟩)).elim
  |dk h2=>cases Hi h h2
  |dt h2 hl2 hr2=>
   cases (Hi h h2);rw[pairs hl hl2 λj x p q e1 e2 e3=>ih j x p e1 e2 (hr2 j x q e1 e3)]
  |exc _ h2=>rcases h with h|⟨o,h⟩<;>rw[h] at h2<;>cases h2
  |exc0 _ h2=>rcases h with h|⟨o,h⟩<;>rw[h] at h2<;>cases h2
 |@exc a C dx c xs l nm h hd hl _ ih=>
  intro q h';cases h' with
  |tup h2=>exact(XO.noSeq I h (.inr ⟨_,SqT.of h2⟩)).elim
  |lst h2=>exact(XO.noSeq I h (.inl ⟨_,h2⟩)).elim
  |dk h2=>rcases h2 with h2|⟨o,h2⟩<;>rw[h] at h2<;>cases h2
  |dt h2=>rcases h2 with h2|⟨o,h2⟩<;>rw[h] at h2<;>cases h2
  |exc nm2 h2 hd2 hl2 hr2=>
   obtain⟨rfl,e⟩:=XO.inj I h h2;cases e;rw[hd] at hd2;cases hd2;cases XNm.inj nm nm2;rw[pairs hl hl2 λj x p q e1 e2 e3=>ih j x p e1 e2 (hr2 j x q e1 e3)]
  |exc0 nm2 h2=>cases (XO.inj I h h2).2
 |@exc0 a C c nm h=>
  intro q h';cases h' with
  |tup h2=>exact(XO.noSeq I h (.inr ⟨_,SqT.of h2⟩)).elim
  |lst h2=>exact(XO.noSeq I h (.inl ⟨_,h2⟩)).elim
  |dk h2=>rcases h2 with h2|⟨o,h2⟩<;>rw[h] at h2<;>cases h2
  |dt h2=>rcases h2 with h2|⟨o,h2⟩<;>rw[h] at h2<;>cases h2
  |exc nm2 h2=>cases (XO.inj I h h2).2
  |exc0 nm2 h2=>
   obtain⟨rfl,_⟩:=XO.inj I h h2;cases XNm.inj nm nm2;rfl
theorem Tq(I:Inv X pins O H s):∀ {A:Around}{x y:V}{p q:PV}{r:Bool}{u v:Value},A.units<cLine->eqF 0 p q=some r->Rep X.K H x p->Rep X.K H y q->RelV x u->RelV y v ->
  SeqAt.RcAt A s u v r/\SeqAt.EqAt A s u v r/\SeqAt.RcNeAt A s u v (!r):=by
 intro A x y p q r u v hu e rx ry ru rv;have hu0:A.units<cLine:=hu
 match p,q,e with
 |.non,.non,e=>
  have e:=Zaf e;subst e;cases Rep.g8 rx;cases Rep.g8 ry;cases ru;cases rv;exact⟨SeqAt.RcAt.none_none,SeqAt.EqAt.same _,SeqAt.RcNeAt.none_none⟩
 |.non,.bl b,e=>
  have e:=Zaf e;subst e;cases Rep.g8 rx;cases Rep.iD ry;cases ru;cases rv;exact⟨SeqAt.RcAt.none_bool _,SeqAt.EqAt.none_bool _,SeqAt.RcNeAt.none_bool _⟩
 |.non,.int b,e=>
  have e:=Zaf e;subst e;cases Rep.g8 rx;cases Rep.bD ry;cases ru;obtain⟨tb,rfl⟩:=rv;exact⟨SeqAt.RcAt.none_int _ _,SeqAt.EqAt.none_int _ _,SeqAt.RcNeAt.none_int _ _⟩
 |.non,.str b,e=>
  have e:=Zaf e;subst e;cases Rep.g8 rx;cases Rep.cG ry;cases ru;obtain⟨tb,rfl⟩:=rv;exact⟨SeqAt.RcAt.none_str _ _,SeqAt.EqAt.none_str _ _,SeqAt.RcNeAt.none_str _ _⟩
 |.bl a,.non,e=>
  have e:=Zaf e;subst e;cases Rep.iD rx;cases Rep.g8 ry;cases ru;cases rv;exact⟨SeqAt.RcAt.bool_none _,SeqAt.EqAt.bool_none _,SeqAt.RcNeAt.bool_none _⟩
 |.bl a,.bl b,e=>
  have e:=Zaf e;subst e;cases Rep.iD rx;cases Rep.iD ry;cases ru;cases rv;rw[<-Zcx];exact⟨SeqAt.RcAt.bool_bool _ _,SeqAt.EqAt.bool_bool _ _,SeqAt.RcNeAt.bool_bool _ _⟩
 |.bl a,.str b,e=>
  have e:=Zaf e;subst e;cases Rep.iD rx;cases Rep.cG ry;cases ru;obtain⟨tb,rfl⟩:=rv;exact⟨SeqAt.RcAt.bool_str _ _ _,SeqAt.EqAt.bool_str _ _ _,SeqAt.RcNeAt.bool_str _ _ _⟩
 |.int a,.non,e=>
  have e:=Zaf e;subst e;cases Rep.bD rx;cases Rep.g8 ry;obtain⟨ta,rfl⟩:=ru;cases rv;exact⟨SeqAt.RcAt.int_none _ _,SeqAt.EqAt.int_none _ _,SeqAt.RcNeAt.int_none _ _⟩
 |.int a,.int b,e=>
  have e:=Zaf e;subst e;cases Rep.bD rx;cases Rep.bD ry;obtain⟨ta,rfl⟩:=ru;obtain⟨tb,rfl⟩:=rv;rw[<-Zcx];exact⟨SeqAt.RcAt.int_int _ _ _ _,SeqAt.EqAt.int_int _ _ _ _,SeqAt.RcNeAt.int_int _ _ _ _⟩
 |.int a,.str b,e=>
  have e:=Zaf e;subst e;cases Rep.bD rx;cases Rep.cG ry;obtain⟨ta,rfl⟩:=ru;obtain⟨tb,rfl⟩:=rv;exact⟨SeqAt.RcAt.int_str _ _ _ _,SeqAt.EqAt.int_str _ _ _ _,SeqAt.RcNeAt.int_str _ _ _ _⟩
 |.str a,.non,e=>
  have e:=Zaf e;subst e;cases Rep.cG rx;cases Rep.g8 ry;obtain⟨ta,rfl⟩:=ru;cases rv;exact⟨SeqAt.RcAt.str_none _ _,SeqAt.EqAt.str_none _ _,SeqAt.RcNeAt.str_none _ _⟩
 |.str a,.bl b,e=>
  have e:=Zaf e;subst e;cases Rep.cG rx;cases Rep.iD ry;obtain⟨ta,rfl⟩:=ru;cases rv;exact⟨SeqAt.RcAt.str_bool _ _ _,SeqAt.EqAt.str_bool _ _ _,SeqAt.RcNeAt.str_bool _ _ _⟩
 |.str a,.int b,e=>
  have e:=Zaf e;subst e;cases Rep.cG rx;cases Rep.bD ry;obtain⟨ta,rfl⟩:=ru;obtain⟨tb,rfl⟩:=rv;exact⟨SeqAt.RcAt.str_int _ _ _ _,SeqAt.EqAt.str_int _ _ _ _,SeqAt.RcNeAt.str_int _ _ _ _⟩
 |.str a,.str b,e=>
  have e:=Zaf e;subst e;cases Rep.cG rx;cases Rep.cG ry;obtain⟨ta,rfl⟩:=ru;obtain⟨tb,rfl⟩:=rv;rw[<-Zcx];exact⟨SeqAt.RcAt.str_str _ _ _ _,SeqAt.EqAt.str_str _ _ _ _,SeqAt.RcNeAt.str_str _ _ _ _⟩
 |.tup a,.non,e=>
  have e:=Zaf e;subst e;obtain⟨aa,xsa,rfl,ha,_⟩:=rx.dh;cases ru;obtain⟨_,_,pa,_⟩:=I.tuple ha;cases Rep.g8 ry;cases rv;exact⟨SeqAt.RcAt.tuple_none pa hu0,SeqAt.EqAt.tuple_none pa hu0,SeqAt.RcNeAt.tuple_none pa hu0⟩
 |.non,.tup b,e=>
  have e:=Zaf e;subst e;cases Rep.g8 rx;cases ru;obtain⟨ab,xsb,rfl,hb,_⟩:=ry.dh;cases rv;obtain⟨_,_,pb,_⟩:=I.tuple hb;exact⟨SeqAt.RcAt.none_tuple pb hu0,SeqAt.EqAt.none_tuple pb hu0,SeqAt.RcNeAt.none_tuple pb hu0⟩
 |.tup a,.int b,e=>
  have e:=Zaf e;subst e;obtain⟨aa,xsa,rfl,ha,_⟩:=rx.dh;cases ru;obtain⟨_,_,pa,_⟩:=I.tuple ha;cases Rep.bD ry;obtain⟨tb,rfl⟩:=rv;exact⟨SeqAt.RcAt.tuple_int _ _ pa hu0,SeqAt.EqAt.tuple_int _ _ pa hu0,SeqAt.RcNeAt.tuple_int _ _ pa hu0⟩
 |.int a,.tup b,e=>
  have e:=Zaf e;subst e;cases Rep.bD rx;obtain⟨ta,rfl⟩:=ru;obtain⟨ab,xsb,rfl,hb,_⟩:=ry.dh;cases rv;obtain⟨_,_,pb,_⟩:=I.tuple hb;exact⟨SeqAt.RcAt.int_tuple _ _ pb hu0,SeqAt.EqAt.int_tuple _ _ pb hu0,SeqAt.RcNeAt.int_tuple _ _ pb hu0⟩
 |.tup a,.str b,e=>
  have e:=Zaf e;subst e;obtain⟨aa,xsa,rfl,ha,_⟩:=rx.dh;cases ru;obtain⟨_,_,pa,_⟩:=I.tuple ha;cases Rep.cG ry;obtain⟨tb,rfl⟩:=rv;exact⟨SeqAt.RcAt.tuple_str _ _ pa hu0,SeqAt.EqAt.tuple_str _ _ pa hu0,SeqAt.RcNeAt.tuple_str _ _ pa hu0⟩
 |.str a,.tup b,e=>
  have e:=Zaf e;subst e;cases Rep.cG rx;obtain⟨ta,rfl⟩:=ru;obtain⟨ab,xsb,rfl,hb,_⟩:=ry.dh;cases rv;obtain⟨_,_,pb,_⟩:=I.tuple hb;exact⟨SeqAt.RcAt.str_tuple _ _ pb hu0,SeqAt.EqAt.str_tuple _ _ pb hu0,SeqAt.RcNeAt.str_tuple _ _ pb hu0⟩
 |.lst a,.non,e=>
  have e:=Zaf e;subst e;obtain⟨aa,xsa,rfl,ha,_⟩:=rx.cH;cases ru;obtain⟨_,_,pa,_⟩:=I.list ha;cases Rep.g8 ry;cases rv;exact⟨SeqAt.RcAt.list_none pa.isList hu0,SeqAt.EqAt.list_none pa.isList hu0,SeqAt.RcNeAt.list_none pa.isList hu0⟩
 |.non,.lst b,e=>
  have e:=Zaf e;subst e;cases Rep.g8 rx;cases ru;obtain⟨ab,xsb,rfl,hb,_⟩:=ry.cH;cases rv;obtain⟨_,_,pb,_⟩:=I.list hb;exact⟨SeqAt.RcAt.none_list pb.isList hu0,SeqAt.EqAt.none_list pb.isList hu0,SeqAt.RcNeAt.none_list pb.isList hu0⟩
 |.lst a,.int b,e=>
  have e:=Zaf e;subst e;obtain⟨aa,xsa,rfl,ha,_⟩:=rx.cH;cases ru;obtain⟨_,_,pa,_⟩:=I.list ha;cases Rep.bD ry;obtain⟨tb,rfl⟩:=rv;exact⟨SeqAt.RcAt.list_int _ _ pa.isList hu0,SeqAt.EqAt.list_int _ _ pa.isList hu0,SeqAt.RcNeAt.list_int _ _ pa.isList hu0⟩
 |.int a,.lst b,e=>
  have e:=Zaf e;subst e;cases Rep.bD rx;obtain⟨ta,rfl⟩:=ru;obtain⟨ab,xsb,rfl,hb,_⟩:=ry.cH;cases rv;obtain⟨_,_,pb,_⟩:=I.list hb;exact⟨SeqAt.RcAt.int_list _ _ pb.isList hu0,SeqAt.EqAt.int_list _ _ pb.isList hu0,SeqAt.RcNeAt.int_list _ _ pb.isList hu0⟩
 |.lst a,.str b,e=>
  have e:=Zaf e;subst e;obtain⟨aa,xsa,rfl,ha,_⟩:=rx.cH;cases ru;obtain⟨_,_,pa,_⟩:=I.list ha;cases Rep.cG ry;obtain⟨tb,rfl⟩:=rv;exact⟨SeqAt.RcAt.list_str _ _ pa.isList hu0,SeqAt.EqAt.list_str _ _ pa.isList hu0,SeqAt.RcNeAt.list_str _ _ pa.isList hu0⟩
 |.str a,.lst b,e=>
  have e:=Zaf e;subst e;cases Rep.cG rx;obtain⟨ta,rfl⟩:=ru;obtain⟨ab,xsb,rfl,hb,_⟩:=ry.cH;cases rv;obtain⟨_,_,pb,_⟩:=I.list hb;exact⟨SeqAt.RcAt.str_list _ _ pb.isList hu0,SeqAt.EqAt.str_list _ _ pb.isList hu0,SeqAt.RcNeAt.str_list _ _ pb.isList hu0⟩
 |.lst a,.tup b,e=>
  have e:=Zaf e;subst e;obtain⟨aa,xsa,rfl,ha,_⟩:=rx.cH;cases ru;obtain⟨_,_,pa,_⟩:=I.list ha;obtain⟨ab,xsb,rfl,hb,_⟩:=ry.dh;cases rv;obtain⟨_,_,pb,_⟩:=I.tuple hb;exact⟨SeqAt.RcAt.list_tuple pa.isList pb hu0,SeqAt.EqAt.list_tuple pa.isList pb hu0,SeqAt.RcNeAt.list_tuple pa.isList pb hu0⟩
 |.tup a,.lst b,e=>
  have e:=Zaf e;subst e;obtain⟨aa,xsa,rfl,ha,_⟩:=rx.dh;cases ru;obtain⟨_,_,pa,_⟩:=I.tuple ha;obtain⟨ab,xsb,rfl,hb,_⟩:=ry.cH;cases rv;obtain⟨_,_,pb,_⟩:=I.list hb;exact⟨SeqAt.RcAt.tuple_list pa pb.isList hu0,SeqAt.EqAt.tuple_list pa pb.isList hu0,SeqAt.RcNeAt.tuple_list pa pb.isList hu0⟩
def Tr:PV->PV->Bool
 |.tup _,.tup _=>true
 |.lst _,.lst _=>true
 |_,_=>false
theorem Tt{n:Nat}{p q:PV}(h:Tr p q=false):eqF (n+1) p q=eqF 0 p q:=by
 cases p<;>cases q<;>first|rfl|cases h
theorem Q6:∀ {p q:PV},Tr p q=true->(∃ l m,p=.tup l/\q=.tup m)\/∃ l m,p=.lst l/\q=.lst m
 |.tup l,q,h=>by
  cases q with
  |tup m=>exact .inl ⟨l,m,rfl,rfl⟩
  |_=>cases h
 |.lst l,q,h=>by
  cases q with
  |lst m=>exact .inr ⟨l,m,rfl,rfl⟩
  |_=>cases h
theorem Tu(I:Inv X pins O H s):∀ (n:Nat) {A:Around}{x y:V}{p q:PV}{r:Bool}{u v:Value},A.units+n<cLine->eqF n p q=some r->Rep X.K H x p->Rep X.K H y q->RelV x u->RelV y v ->
  SeqAt.RcAt A s u v r/\SeqAt.EqAt A s u v r/\SeqAt.RcNeAt A s u v (!r):=by
 intro n;induction n with
 |zero=>exact λhu e=>Tq I (by lia) e
 |succ n ih=>
  intro A x y p q r u v hu e rx ry ru rv;have hu0:A.units<cLine:=by lia
  cases hr:Tr p q with
  |false=>exact Tq I hu0 (by rw[<-Tt hr];exact e) rx ry ru rv
  |true=>
  rcases Q6 hr with⟨l,m,rfl,rfl⟩|⟨l,m,rfl,rfl⟩
  ·have e:eqL (eqF n) l m=some r:=e;obtain⟨a,xs,rfl,ha,r1⟩:=rx.dh;obtain⟨b,ys,rfl,hb,r2⟩:=ry.dh;cases ru;cases rv;obtain⟨i1,v1,t1,_⟩:=I.tuple ha;obtain⟨i2,v2,t2,_⟩:=I.tuple hb;obtain⟨g,g1,g2⟩:=Hh e;have hj:∀ j (h1:j<i1.toArray.size) (h2:j<i2.toArray.size),SeqAt.EqAt A.in1 s i1.toArray[j] i2.toArray[j] (g j):=λj h1 h2=>by
    obtain⟨x,hx,rx'⟩:=wA v1 h1;obtain⟨y,hy,ry'⟩:=wA v2 h2;obtain⟨p',hp,rp⟩:=r1.got hx;obtain⟨q',hq,rq⟩:=r2.got hy;exact(ih (A:=A.in1) (show A.units+1+n<cLine by lia) (g1 j p' q' hp hq) rp rq rx' ry').2.1
   have rc:=SeqAt.RcAt.tuples (A:=A) (e:=g) t1 t2 hu0 hj;have rn:=SeqAt.RcNeAt.tuples (A:=A) (e:=g) t1 t2 hu0 hj;rw[List.size_toArray,List.size_toArray,<-v1.length,<-v2.length,r1.1,r2.1,<-g2] at rc rn;refine⟨rc,?_,rn⟩;by_cases hab:a=b
   ·subst hab;have epq:PV.tup l=PV.tup m:=Rep.inj I rx ry;cases epq;have er:=rD (Jy n) e;subst er;exact SeqAt.EqAt.same _
   ·exact .of_refs hab rc
  ·obtain⟨a,xs,rfl,ha,r1⟩:=rx.cH;obtain⟨b,ys,rfl,hb,r2⟩:=ry.cH;cases ru;cases rv;obtain⟨i1,v1,t1,_⟩:=I.list ha;obtain⟨i2,v2,t2,_⟩:=I.list hb;have e:(if l.length=m.length then eqL (eqF n) l m else some false)=some r:=e;split at e
   ·rename_i hlm;obtain⟨g,g1,g2⟩:=Hh e;have hz:i1.toArray.size=i2.toArray.size:=by rw[List.size_toArray,List.size_toArray,<-v1.length,<-v2.length,r1.1,r2.1];exact hlm
    have hj:∀ j (h1:j<i1.toArray.size) (h2:j<i2.toArray.size),SeqAt.EqAt A.in1 s i1.toArray[j] i2.toArray[j] (g j):=λj h1 h2=>by
     obtain⟨x,hx,rx'⟩:=wA v1 h1;obtain⟨y,hy,ry'⟩:=wA v2 h2;obtain⟨p',hp,rp⟩:=r1.got hx;obtain⟨q',hq,rq⟩:=r2.got hy;exact(ih (A:=A.in1) (show A.units+1+n<cLine by lia) (g1 j p' q' hp hq) rp rq rx' ry').2.1
    have rc:=SeqAt.RcAt.lists (A:=A) (e:=g) t1.isList t2.isList hz hu0 hj;have e2:r=(List.range l.length).all g:=by rw[g2,<-hlm,Nat.min_self,beq_self_eq_true,Bool.and_true]
    have rn:=SeqAt.RcNeAt.lists (A:=A) (e:=g) t1.isList t2.isList hz hu0 hj;rw[List.size_toArray,<-v1.length,r1.1,<-e2] at rc rn;refine⟨rc,?_,rn⟩;by_cases hab:a=b
    ·subst hab;have epq:PV.lst l=PV.lst m:=Rep.inj I rx ry;cases epq;have er:=rD (Jy n) e;subst er;exact SeqAt.EqAt.same _
    ·exact .of_refs hab rc
   ·rename_i hlm;cases e;have hz:(i1.toArray.size != i2.toArray.size)=true:=by rw[List.size_toArray,List.size_toArray,<-v1.length,<-v2.length,r1.1,r2.1];simpa using hlm
    have rc:=SeqAt.RcAt.lists_lengths (A:=A) t1.isList t2.isList hz hu0;have hab:a≠b:=λz=>by
     subst z;have epq:PV.lst l=PV.lst m:=Rep.inj I rx ry;cases epq;exact hlm rfl
    exact⟨rc,.of_refs hab rc,SeqAt.RcNeAt.lists_lengths (A:=A) t1.isList t2.isList hz hu0⟩
end
section
variable{X:Cx}{k:Nat}
theorem OpR.or{f:Value->Value->Sem Value}{r r':R2}(h:OpR X f r)(h':OpR X f r'):OpR X f (λx y H Q=>r x y H Q\/r' x y H Q):=by
 intro pins s O H x y v u Q I rx ry q;rcases q with q|q
 ·exact h pins s O H x y v u Q I rx ry q
 ·exact h' pins s O H x y v u Q I rx ry q
def Y0(K:Frag):R2:=λx y H Q=>∃ p q r,Rep K H x p/\Rep K H y q/\eqF 32 p q=some r/\Q (.bl r) H
def aac(K:Frag):R2:=λx y H Q=>∃ p q r,Rep K H x p/\Rep K H y q/\eqF 32 p q=some r/\Q (.bl (!r)) H
theorem iI(hr:gr k X.A):OpR X (compareOp .Eq) (Y0 X.K):=by
 intro pins s O H x y v u Q I rx ry h;obtain⟨p,q,r,h1,h2,e,h3⟩:=h;exact(Tu I 32 (Mw hr) e h1 h2 rx ry).1 X.prog X.w X.xe _ ⟨.bl r,H,I,rfl,h3⟩
theorem vf(hr:gr k X.A):OpR X (compareOp .NotEq) (aac X.K):=by
 intro pins s O H x y v u Q I rx ry h;obtain⟨p,q,r,h1,h2,e,h3⟩:=h;exact(Tu I 32 (Mw hr) e h1 h2 rx ry).2.2 X.prog X.w X.xe _ ⟨.bl (!r),H,I,rfl,h3⟩
def inF(p:PV):List PV->Option Bool
 |[]=>some false
 |x::xs=>match eqF 31 x p,inF p xs with
  |some a,some b=>some (a||b)
  |_,_=>none
theorem Ow{p:PV}:∀ {l:List PV}{r:Bool},inF p l=some r->∃ e:Nat->Bool,(∀ (j:Nat) x,l[j]?=some x->eqF 31 x p=some (e j))/\r=(List.range l.length).any e
 |[],r,h=>⟨λ_=>true,λj x a=>by simp at a,by cases h;rfl⟩
 |x::xs,r,h=>by
  rw[inF] at h;split at h
  ·rename_i a b h1 h2;cases h;obtain⟨e,e1,e2⟩:=Ow h2;refine⟨λj=>match j with|0=>a|j+1=>e j,λj x' a'=>?_,?_⟩
   ·cases j with
    |zero=>simp at a';subst a';exact h1
    |succ j=>exact e1 j x' (by simpa using a')
   ·rw[e2,ZaQ,List.range_succ_eq_map,Zb8,List.any_map];rfl
  ·cases h
def aad(K:Frag)(neg:Bool):R2:=λx y H Q=>∃ p l r,Rep K H x p/\(Rep K H y (.lst l)\/Rep K H y (.tup l))/\inF p l=some r/\Q (.bl (if neg=true then !r else r)) H
theorem JB{pins:List (Addr×Obj)}{O:St}{H:Hp}{s:Shared}(I:Inv X pins O H s)(hr:gr k X.A){x:V}{v:Value}{p:PV}{xs:List V}{its:List Value}{l:List PV}{r:Bool}(rx:RelV x v)(h1:Rep X.K H x p)(rv:Vals xs its)(hl:bR X.K H xs l)(e:inF p l=some r) :
  ∃ f:Value->Bool,(∀ y,y∈its.toArray->SeqAt.EqAt X.A.in1 s y v (f y))/\its.toArray.any f=r:=by
 obtain⟨g,g1,g2⟩:=Ow e;have key:∀ w'∈its,∃ j,∃ hj:j<its.length,its[j]=w':=λw' hw=>by
  obtain⟨j,hj,e⟩:=List.mem_iff_getElem.mp hw;exact⟨j,hj,e⟩
 have look:∀ (j:Nat) (hj:j<its.length),∃ z q,l[j]?=some q/\RelV z its[j]/\Rep X.K H z q/\eqF 31 q p=some (g j):=λj hj=>by
  obtain⟨z,hz,rz⟩:=wA rv (j:=j) (by simpa using hj)
  obtain⟨q,hq,rq⟩:=hl.got hz;exact⟨z,q,hq,by simpa using rz,rq,g1 j q hq⟩
 classical
 let f:Value->Bool:=λw'=>if h:∃ j,∃ hj:j<its.length,its[j]=w' then g (Classical.choose h) else false
 have fe:∀ (j:Nat) (hj:j<its.length),f its[j]=g j:=λj hj=>by
  have hx:∃ i,∃ hi:i<its.length,its[i]=its[j]:=⟨j,hj,rfl⟩;show(if h:∃ i,∃ hi:i<its.length,its[i]=its[j] then g (Classical.choose h) else false)=g j
  rw[dif_pos hx];obtain⟨h1',h2'⟩:=Classical.choose_spec hx;generalize Classical.choose hx=i at h1' h2' ⊢
  obtain⟨z,q,_,rz,rq,eq1⟩:=look i h1';obtain⟨z',q',_,rz',rq',eq2⟩:=look j hj;rw[h2'] at rz;cases rz.inj rz';cases Rep.inj I rq rq';rw[eq1] at eq2;exact Zaf eq2
 refine⟨f,λy hy=>?_,?_⟩
 ·obtain⟨j,hj,e1⟩:=key y (by simpa using hy)
  obtain⟨z,q,_,rz,rq,eq1⟩:=look j hj;rw[<-e1,fe j hj];exact(Tu I 31 (A:=X.A.in1) (show X.A.units+1+31<cLine by have:=Mw hr;lia) eq1 rq h1 rz rx).2.1
 ·have hlen:its.length=l.length:=by rw[<-rv.length,hl.1]
  rw[g2,show its.toArray.any f=its.any f by simp,Zb6,ZcZ,ZcZ]
  constructor
  ·rintro⟨w',hw,hf⟩;obtain⟨j,hj,e1⟩:=key w' hw;exact⟨j,Zav.mpr (by lia),by rw[<-fe j hj,e1];exact hf⟩
  ·rintro⟨j,hj,hf⟩;have hj':j<its.length:=by rw[hlen];exact Zav.mp hj
   exact⟨its[j],ZbZ hj',by rw[fe j hj'];exact hf⟩
theorem Q7(hr:gr k X.A):OpR X (compareOp .NotIn) (aad X.K true):=by
 intro pins s O H x y v u Q I rx ry h;obtain⟨p,l,r,h1,h2,e,q⟩:=h;rcases h2 with h2|h2
 ·obtain⟨a,xs,rfl,hq,rr⟩:=h2.cH;cases ry;obtain⟨its,rv,pl,_⟩:=I.list hq;obtain⟨f,f1,f2⟩:=JB I hr rx h1 rv rr e;exact SeqAt.notIn_listAt f pl.isList f1 (by rw[f2];exact⟨.bl _,H,I,rfl,q⟩)
 ·obtain⟨a,xs,rfl,hq,rr⟩:=h2.dh;cases ry;obtain⟨its,rv,pl,_⟩:=I.tuple hq;obtain⟨f,f1,f2⟩:=JB I hr rx h1 rv rr e;exact SeqAt.notIn_tupleAt f pl f1 (by rw[f2];exact⟨.bl _,H,I,rfl,q⟩)
def Hj(K:Frag):R2:=λx y H Q=>aad K true x y H Q\/∃ i j,x=.str i/\y=.str j/\Q (.bl (!(!(Builtin.Str.occurrences j i 0 j.length 1).isEmpty))) H
theorem yz(hr:gr k X.A):OpR X (compareOp .NotIn) (Hj X.K):=OpR.or (Q7 hr) GR
def Tw(K:Frag):R2:=λx y H Q=>rI0 (λi j=>.int (i+j)) x y H Q\/(∃ i j,x=.str i/\y=.str j/\i.length+j.length<=sizeLine/\Q (.str (i++j)) H)\/Xv K x y H Q
theorem cP:OpR X (binaryOp .Add) (Tw X.K):=OpR.or Yv (OpR.or Mm V7)
def XC:R2:=λx y H Q=>rI Mj (λi j=>.int (i*j)) x y H Q\/∃ z n,x=.str z/\y=.int n/\-(2^63)<=n/\n<2^63/\z.length*n.toNat<=sizeLine/\Q (.str ⟨(List.replicate n.toNat z.cps).foldl (·++·) #[]⟩) H
theorem d9:OpR X (binaryOp .Mult) XC:=by
 refine OpR.or Yw ?_;intro pins s O H x y v u Q I rx ry h;obtain⟨z,n,rfl,rfl,h1,h2,h3,q⟩:=h;obtain⟨t,rfl⟩:=rx;obtain⟨t',rfl⟩:=ry;have fin:∀ t k,EP X pins O Q (.str ⟨(List.replicate n.toNat z.cps).foldl (·++·) #[]⟩ t) { s with toks:=k }:=λt k=>⟨.str _,H,I.tok _,⟨t,rfl⟩,q⟩;have hr:(decide (n < -(2^63:Int))||decide (n>=2^63))=false:=by
  rw[ZaM (by omega),ZaM (by omega)];rfl
 refine PySem.P.mul_str hr (λh4 h5=>?_) (λh4 h5=>?_) ?_
 ·have hn:1<=n:=by omega
  have h6:z.length<=sizeLine:=by
   have:z.length*1<=z.length*n.toNat:=Nat.mul_le_mul_left _ (by omega)
   omega
  have h7:n≠1:=λe=>by subst e;simp at h5
  have h8:(z.length:Int)*n<=16777216:=by
   have e:(z.length:Int)*n=((z.length*n.toNat:Nat):Int):=by
    rw[Int.natCast_mul,Zbx (by omega)]
   rw[e];have:z.length*n.toNat<=16777216:=h3;omega
  have h9:(z.length:Int)<=(2^63-1)/n:=by
   apply(Int.le_ediv_iff_mul_le (by omega)).mpr
   omega
  omega
 ·unfold Builtin.Str.tooLong;exact ZaM (by omega)
 ·by_cases h4:n<1
  ·rw[Zan h4];have e:n.toNat=0:=by omega
   rw[e] at fin;exact⟨Za7 _,fin _ _⟩
  ·rw[Zam h4];refine post_val_or_str ⟨?_,λt' k=>?_⟩
   ·have e1:∀ (m:Nat) (acc:Array Nat),((List.replicate m z.cps).foldl (·++·) acc).size=acc.size+m*z.cps.size:=λm=>by
     induction m with
     |zero=>intro acc;simp
     |succ m ih=>intro acc;rw[List.replicate_succ,Zc2,ih,Array.size_append,Nat.succ_mul];omega
    have h6:z.length<=sizeLine:=by
     have:z.length*1<=z.length*n.toNat:=Nat.mul_le_mul_left _ (by omega)
     omega
    split
    ·exact h6
    ·show((List.replicate n.toNat z.cps).foldl (·++·) #[]).size<=sizeLine
     rw[e1,Nat.mul_comm];show 0+z.length*n.toNat<=_
     omega
   ·have fz:=fin t' k;split
    ·rename_i h5;have e:(⟨(List.replicate n.toNat z.cps).foldl (·++·) #[]⟩:Str)=z:=by
      rcases Bool.or_eq_true _ _▸h5 with h|h
      ·have:n=1:=by simpa using h
       subst this;show(⟨#[]++z.cps⟩:Str)=z
       rw[Array.empty_append]
      ·have h1:z.length=0:=by simpa using h
       have h0:z.cps=#[]:=Array.eq_empty_of_size_eq_zero h1;have e2:∀ m:Nat,(List.replicate m (#[]:Array Nat)).foldl (·++·) #[]=#[]:=λm=>by
        induction m with
        |zero=>rfl
        |succ m ih=>rw[List.replicate_succ,Zc2];exact ih
       cases z with
       |mk c=>cases h0;rw[e2]
     rw[e] at fz;exact fz
    ·exact fz
def aae:R2:=λx y H Q=>rI0 (λi j=>.bl (decide (i<j))) x y H Q\/∃ i j,x=.str i/\y=.str j/\Q (.bl (decide (i.cps.toList<j.cps.toList))) H
theorem vg:OpR X (compareOp .Lt) aae:=OpR.or ZX QL
def aaf:R2:=λx y H Q=>rI0 (λi j=>.bl (decide (i<=j))) x y H Q\/∃ i j,x=.str i/\y=.str j/\Q (.bl (!(decide (j.cps.toList<i.cps.toList)))) H
theorem MF:OpR X (compareOp .LtE) aaf:=OpR.or ZZ Q0
theorem Q8(l b:Addr)(i1 i2:Array Value)(n1 n2:Nat)(s1 s2:Array (Option Value))(hz:i1.size+i2.size<=sizeLine) :
  Meets (Builtin.«list.__add__» ⟨[.ref l,.ref b],[]⟩) (λ_ R s=>s.heap.get? l=some ⟨.type "list",none,.seq i1 n1,s1⟩/\s.heap.get? b=some ⟨.type "list",none,.seq i2 n2,s2⟩ /\
   R (.ok (.ret (Value.ref s.heap.objs.size))) { s with heap:=s.heap.push { cls:=Value.type "list",data:=Data.seq (i1++i2) } }):=by
 refine .of_wp λprog w A R s h=>?_;obtain⟨hp,g,d,tk,os⟩:=s;obtain⟨h1,h2,h⟩:=h;have f1:=AutoSeq1.idx_int;have f2:=AutoSeq1.sub_tuple_tuple;have f3:=AutoSeq1.sub_list_list;have f4:=AutoSeq1.sub_tuple_list;have f5:=AutoSeq1.sub_list_tuple
 wp_walk using AutoSeq1.wpAny_loadPart' h1,AutoSeq1.wpAny_loadPart' h2
 exact⟨_,rfl,h⟩
theorem Hk:OpR X (binaryOp .Add) (λx y H Q=>∃ l b xs zs,x=.ref l/\y=.ref b/\SqL X.K H l xs/\SqL X.K H b zs/\xs.length+zs.length<=sizeLine/\∀ p,H p=none->Q (.ref p) (upd H p (.lst (xs++zs)))):=by
 intro pins s O H x y v u Q I rx ry h;obtain⟨l,b,xs,zs,rfl,rfl,hH,hB,hz,q⟩:=h;cases rx;cases ry;obtain⟨its,r,⟨⟨cl1,dd1,da1,sl1⟩,n1,g1,c1,d1,e1⟩,z1⟩:=I.list hH;obtain⟨its2,r2,⟨⟨cl2,dd2,da2,sl2⟩,n2,g2,c2,d2,e2⟩,z2⟩:=I.list hB;simp only at c1 d1 e1 c2 d2 e2;subst c1 d1 e1 c2 d2 e2;have hs:its.toArray.size+its2.toArray.size<=sizeLine:=by rw[List.size_toArray,List.size_toArray,<-r.length,<-r2.length];exact hz
 refine concat_meets ⟨_,g1,rfl⟩ ⟨_,g2,rfl⟩ noFill_list_add seq_list_add F.slot_list_add F.entry_list_add (F.args_list_add_2 _ _) (Q8 l b its.toArray its2.toArray n1 n2 sl1 sl2 hs) ⟨g1,g2,?_⟩;have ea:its.toArray++its2.toArray=(its++its2).toArray:=by simp
 rw[ea];exact⟨.ref _,_,I.aaK (t':=s.toks) (r.append r2) (by rw[ZaC];lia),rfl,q _ I.fresh⟩
end
theorem noS{α:Type}{r:α}{C:Prop}(e:(none:Option α)=some r):C:=by cases e
def opI(c:Int->Int->Bool)(f:Int->Int->PV):PV->PV->Option (Res PV)
 |.int i,.int j=>if c i j=true then some (.ok (f i j)) else none
 |_,_=>none
def cT:Int->Int->Bool:=λ_ _=>true
def Tz:Int->Int->Bool:=λi j=>decide ((-(2^64)<i/\i<2^64)\/(-(2^64)<j/\j<2^64))
def Y4:Int->Int->Bool:=λ_ j=>decide (0<j/\j<1073741824)
def aag:Int->Int->Bool:=λ_ j=>decide (0<j)
def TF:Int->Int->Bool:=λi j=>decide (0<=j/\j<=1000000/\i.natAbs<2^64)
def aah:Int->Int->Bool:=λ_ j=>decide (0<=j)
def zu:=opI cT λi j=>.int (i-j)
def Bq:=opI Y4 λi j=>.int (i/j)
def iC:=opI aag λi j=>.int (i%j)
def Ox:=opI TF λi j=>.int (i^j.toNat)
def zx:=opI TF λi j=>.int (i*2^j.toNat)
def JC:=opI aah λi j=>.int (i/2^j.toNat)
def rE:=opI cT λi j=>.int (Builtin.bitAnd i j)
def Wm:=opI cT λi j=>.int (Builtin.bitOr i j)
def JD:=opI cT λi j=>.bl (decide (j<i))
def Q9:=opI cT λi j=>.bl (decide (j<=i))
def eQ:PV->PV->Option (Res PV)
 |.int i,.int j=>some (.ok (.int (i+j)))
 |.str i,.str j=>if i.length+j.length<=sizeLine then some (.ok (.str (i++j))) else none
 |.tup l,.tup m=>if l≠[]/\l.length+m.length<=sizeLine then some (.ok (.tup (l++m))) else none
 |_,_=>none
def Y5(z:Str)(n:Nat):Str:=⟨(List.replicate n z.cps).foldl (·++·) #[]⟩
def jw:PV->PV->Option (Res PV)
 |.int i,.int j=>if Tz i j=true then some (.ok (.int (i*j))) else none
 |.str z,.int n=>if -(2^63)<=n/\n<2^63/\z.length*n.toNat<=sizeLine then some (.ok (.str (Y5 z n.toNat))) else none
 |_,_=>none
def En:PV->PV->Option (Res PV)
 |.int i,.int j=>some (.ok (.bl (decide (i<j))))
 |.str i,.str j=>some (.ok (.bl (decide (i.cps.toList<j.cps.toList))))
 |_,_=>none
def Ra:PV->PV->Option (Res PV)
 |.int i,.int j=>some (.ok (.bl (decide (i<=j))))
 |.str i,.str j=>some (.ok (.bl (!(decide (j.cps.toList<i.cps.toList)))))
 |_,_=>none
def m6(p q:PV):Option (Res PV):=match eqF 32 p q with
 |some r=>some (.ok (.bl r))
 |none=>none
def wL(p q:PV):Option (Res PV):=match eqF 32 p q with
 |some r=>some (.ok (.bl (!r)))
 |none=>none
def inU(p:PV):PV->Option Bool
 |.lst l=>inF p l
 |.tup l=>inF p l
 |.str j=>match p with
  |.str i=>some (!(Builtin.Str.occurrences j i 0 j.length 1).isEmpty)
  |_=>none
 |_=>none
def mD(p q:PV):Option (Res PV):=match inU p q with
 |some r=>some (.ok (.bl (!r)))
 |none=>none
def PV.ux:PV->Bool
 |.non=>true
 |_=>false
def Br(p q:PV):Option (Res PV):=match q with
 |.non=>some (.ok (.bl (!p.ux)))
 |_=>none
def ofO(x:Option PV):Option (Res PV):=match x with
 |some p=>some (.ok p)
 |none=>none
def bU:PV->PV->Option (Res PV)
 |.lst l,.int i=>ofO (atI l i)
 |.tup l,.int i=>ofO (atI l i)
 |.str z,.int i=>if z.length<=sizeLine then ofO ((atI z.cps.toList i).map λc=>.str ⟨#[c]⟩) else none
 |_,_=>none
def FN:List PV->PV->Option (Res PV)
 |l,.int i=>ofO (atI l i)
 |_,_=>none
section
variable{K:Frag}{C:Cg}{F H:Hp}
theorem aai{i j:Int}(h:Y4 i j=true):Yu i j:=of_decide_eq_true (p:=0<j/\j<1073741824) h
theorem XD{i j:Int}(h:TF i j=true):R6 i j:=of_decide_eq_true (p:=0<=j/\j<=1000000/\i.natAbs<2^64) h
theorem aaj{i j:Int}(h:Tz i j=true):Mj i j:=of_decide_eq_true (p:=(-(2^64)<i/\i<2^64)\/(-(2^64)<j/\j<2^64)) h
theorem JF{c:Int->Int->Bool}{f:Int->Int->PV}{cond:Int->Int->Prop}{fv:Int->Int->V}(hc:∀ i j,c i j=true->cond i j)(hf:∀ i j F,Rep K F (fv i j) (f i j)):R2M C (aF K) (aF K) (aF K) (rI cond fv) (opI c f):=by
 intro F H x y a b res Q s ha hb e P;have inv:(∃ i j,a=.int i/\b=.int j):=by
  clear P ha hb
  cases a<;>first|exact noS e|(cases b<;>first|exact noS e|exact⟨_,_,rfl,rfl⟩)
 obtain⟨i,j,rfl,rfl⟩:=inv;cases Rep.bD ha;cases Rep.bD hb;have e:(if c i j=true then some (Res.ok (f i j)) else none)=some res:=e;split at e
 ·rename_i h;cases e;exact⟨i,j,rfl,rfl,hc i j h,P _ F H (Up.refl s) (hf i j F)⟩
 ·cases e
theorem Bs{f:Int->Int->PV}{fv:Int->Int->V}(hf:∀ i j F,Rep K F (fv i j) (f i j)):R2M C (aF K) (aF K) (aF K) (rI0 fv) (opI cT f):=by
 intro F H x y a b res Q s ha hb e P;have inv:(∃ i j,a=.int i/\b=.int j):=by
  clear P ha hb
  cases a<;>first|exact noS e|(cases b<;>first|exact noS e|exact⟨_,_,rfl,rfl⟩)
 obtain⟨i,j,rfl,rfl⟩:=inv;cases Rep.bD ha;cases Rep.bD hb;cases e;exact⟨i,j,rfl,rfl,P _ F H (Up.refl s) (hf i j F)⟩
theorem JG:R2M C (aF K) (aF K) (aF K) (rI0 λi j=>.int (i-j)) zu:=Bs λ_ _ _=>.int
theorem Oz:R2M C (aF K) (aF K) (aF K) (rI Yu λi j=>.int (i/j)) Bq:=JF (λ_ _ h=>aai h) λ_ _ _=>.int
theorem jE:R2M C (aF K) (aF K) (aF K) (rI (λ_ j=>0<j) λi j=>.int (i%j)) iC:=JF (λ_ _ h=>of_decide_eq_true h) λ_ _ _=>.int
theorem aak:R2M C (aF K) (aF K) (aF K) (rI R6 λi j=>.int (i^j.toNat)) Ox:=JF (λ_ _ h=>XD h) λ_ _ _=>.int
theorem JH:R2M C (aF K) (aF K) (aF K) (rI R6 λi j=>.int (i*2^j.toNat)) zx:=JF (λ_ _ h=>XD h) λ_ _ _=>.int
theorem XF:R2M C (aF K) (aF K) (aF K) (rI (λ_ j=>0<=j) λi j=>.int (i/2^j.toNat)) JC:=JF (λ_ _ h=>of_decide_eq_true h) λ_ _ _=>.int
theorem zy:R2M C (aF K) (aF K) (aF K) (rI0 λi j=>.int (Builtin.bitAnd i j)) rE:=Bs λ_ _ _=>.int
theorem aaO:R2M C (aF K) (aF K) (aF K) (rI0 λi j=>.int (Builtin.bitOr i j)) Wm:=Bs λ_ _ _=>.int
theorem TJ:R2M C (aF K) (aF K) (aF K) (rI0 λi j=>.bl (decide (j<i))) JD:=Bs λ_ _ _=>.bl
theorem Y6:R2M C (aF K) (aF K) (aF K) (rI0 λi j=>.bl (decide (j<=i))) Q9:=Bs λ_ _ _=>.bl
theorem fY:R2M C (aF K) (aF K) (aF K) (Tw K) eQ:=by
 intro F H x y a b res Q s ha hb e P;have inv:(∃ i j,a=.int i/\b=.int j)\/(∃ i j,a=.str i/\b=.str j)\/(∃ l m,a=.tup l/\b=.tup m):=by
  clear P ha hb
  cases a<;>first|exact noS e|(cases b<;>first|exact noS e|exact .inl ⟨_,_,rfl,rfl⟩|exact .inr (.inl ⟨_,_,rfl,rfl⟩)|exact .inr (.inr ⟨_,_,rfl,rfl⟩))
 rcases inv with⟨i,j,rfl,rfl⟩|⟨i,j,rfl,rfl⟩|⟨l,m,rfl,rfl⟩
 ·cases Rep.bD ha;cases Rep.bD hb;cases e;exact .inl ⟨i,j,rfl,rfl,P _ F H (Up.refl s) .int⟩
 ·cases Rep.cG ha;cases Rep.cG hb;have e:(if i.length+j.length<=sizeLine then some (Res.ok (PV.str (i++j))) else none)=some res:=e;split at e
  ·rename_i h;cases e;exact .inr (.inl ⟨i,j,rfl,rfl,h,P _ F H (Up.refl s) .str⟩)
  ·cases e
 ·have e:(if l≠[]/\l.length+m.length<=sizeLine then some (Res.ok (PV.tup (l++m))) else none)=some res:=e;split at e
  ·rename_i h;cases e;obtain⟨a1,xs,rfl,h1,r1⟩:=Rep.dh ha;obtain⟨a2,ys,rfl,h2,r2⟩:=Rep.dh hb;have hx:xs≠[]:=λz=>h.1 (by have:=r1.1;rw[z] at this;simpa using this.symm)
   refine .inr (.inr ⟨a1,a2,xs,ys,rfl,rfl,s.tup h1,s.tup h2,hx,by rw[r1.1,r2.1];exact h.2,λz=>?_,λ_ p hp=>?_⟩)
   ·subst z;have hm:m=[]:=by have:=r2.1;simpa using this.symm
    subst hm;rw[Za1] at P;exact P _ F H (Up.refl s) ha
   ·have un:=Up.new (o:=.tup (xs++ys)) s hp;exact P _ _ _ un (.tup aP (r1.append r2).1 ((r1.append r2).up un.ff).2)
  ·cases e
theorem kE:R2M C (aF K) (aF K) (aF K) XC jw:=by
 intro F H x y a b res Q s ha hb e P;have inv:(∃ i j,a=.int i/\b=.int j)\/(∃ z n,a=.str z/\b=.int n):=by
  clear P ha hb
  cases a<;>first|exact noS e|(cases b<;>first|exact noS e|exact .inl ⟨_,_,rfl,rfl⟩|exact .inr ⟨_,_,rfl,rfl⟩)
 rcases inv with⟨i,j,rfl,rfl⟩|⟨z,n,rfl,rfl⟩
 ·cases Rep.bD ha;cases Rep.bD hb;have e:(if Tz i j=true then some (Res.ok (PV.int (i*j))) else none)=some res:=e;split at e
  ·rename_i h;cases e;exact .inl ⟨i,j,rfl,rfl,aaj h,P _ F H (Up.refl s) .int⟩
  ·cases e
 ·cases Rep.cG ha;cases Rep.bD hb;have e:(if -(2^63)<=n/\n<2^63/\z.length*n.toNat<=sizeLine then some (Res.ok (PV.str (Y5 z n.toNat))) else none)=some res:=e;split at e
  ·rename_i h;cases e;exact .inr ⟨z,n,rfl,rfl,h.1,h.2.1,h.2.2,P _ F H (Up.refl s) .str⟩
  ·cases e
theorem MK:R2M C (aF K) (aF K) (aF K) aae En:=by
 intro F H x y a b res Q s ha hb e P;have inv:(∃ i j,a=.int i/\b=.int j)\/(∃ i j,a=.str i/\b=.str j):=by
  clear P ha hb
  cases a<;>first|exact noS e|(cases b<;>first|exact noS e|exact .inl ⟨_,_,rfl,rfl⟩|exact .inr ⟨_,_,rfl,rfl⟩)
 rcases inv with⟨i,j,rfl,rfl⟩|⟨i,j,rfl,rfl⟩
 ·cases Rep.bD ha;cases Rep.bD hb;cases e;exact .inl ⟨i,j,rfl,rfl,P _ F H (Up.refl s) .bl⟩
 ·cases Rep.cG ha;cases Rep.cG hb;cases e;exact .inr ⟨i,j,rfl,rfl,P _ F H (Up.refl s) .bl⟩
theorem Y7:R2M C (aF K) (aF K) (aF K) aaf Ra:=by
 intro F H x y a b res Q s ha hb e P;have inv:(∃ i j,a=.int i/\b=.int j)\/(∃ i j,a=.str i/\b=.str j):=by
  clear P ha hb
  cases a<;>first|exact noS e|(cases b<;>first|exact noS e|exact .inl ⟨_,_,rfl,rfl⟩|exact .inr ⟨_,_,rfl,rfl⟩)
 rcases inv with⟨i,j,rfl,rfl⟩|⟨i,j,rfl,rfl⟩
 ·cases Rep.bD ha;cases Rep.bD hb;cases e;exact .inl ⟨i,j,rfl,rfl,P _ F H (Up.refl s) .bl⟩
 ·cases Rep.cG ha;cases Rep.cG hb;cases e;exact .inr ⟨i,j,rfl,rfl,P _ F H (Up.refl s) .bl⟩
theorem ug:R2M C (aH K) (aH K) (aF K) (Y0 K) m6:=by
 intro F H x y a b res Q s ha hb e P;unfold m6 at e;split at e
 ·rename_i r h;cases e;exact⟨a,b,r,ha,hb,h,P _ F H (Up.refl s) .bl⟩
 ·cases e
theorem MN:R2M C (aH K) (aH K) (aF K) (aac K) wL:=by
 intro F H x y a b res Q s ha hb e P;unfold wL at e;split at e
 ·rename_i r h;cases e;exact⟨a,b,r,ha,hb,h,P _ F H (Up.refl s) .bl⟩
 ·cases e
theorem Ag:R2M C (aH K) (aH K) (aF K) (Hj K) mD:=by
 intro F H x y a b res Q s ha hb e P;unfold mD at e;split at e
 ·rename_i r h;cases e
  match b,h with
  |.lst l,h=>exact .inl ⟨a,l,r,ha,.inl hb,h,P _ F H (Up.refl s) .bl⟩
  |.tup l,h=>exact .inl ⟨a,l,r,ha,.inr hb,h,P _ F H (Up.refl s) .bl⟩
  |.str j,h=>
   match a,h with
   |.str i,h=>
    cases h;exact .inr ⟨i,j,Rep.cG ha,Rep.cG hb,P _ F H (Up.refl s) .bl⟩
 ·cases e
theorem TQ{v:V}{p:PV}(h:Rep K F v p):decide (v=.non)=p.ux:=by
 cases h<;>first|rfl|exact ZaM (by intro z;cases z)
theorem M3:R2M C (aH K) (aF K) (aF K) (λx y H Q=>y=.non/\Q (.bl (!decide (x=.non))) H) Br:=by
 intro F H x y a b res Q s ha hb e P
 match b,e with
 |.non,e=>
  cases e;rw[TQ ha];exact⟨Rep.g8 hb,P _ F H (Up.refl s) .bl⟩
theorem Hl{xs:List V}{l:List PV}{i:Int}{p:PV}(r:bR K F xs l)(h:atI l i=some p):∃ v,atI xs i=some v/\Rep K F v p:=by
 unfold atI at h ⊢;rw[r.1];cases e:ixN l.length i with
 |none=>rw[e] at h;cases h
 |some j=>
  rw[e] at h;exact r.get h
theorem wM{x:Option PV}{res:Res PV}(h:ofO x=some res):∃ p,x=some p/\res=.ok p:=by
 cases x with
 |none=>cases h
 |some p=>cases h;exact⟨p,rfl,rfl⟩
theorem b7:R2M C (aF K) (aF K) (aF K) (rIx K) bU:=by
 intro F H x y a b res Q s ha hb e P;have inv:(∃ l i,a=.lst l/\b=.int i)\/(∃ l i,a=.tup l/\b=.int i)\/(∃ z i,a=.str z/\b=.int i):=by
  clear P ha hb
  cases a<;>first|exact noS e|(cases b<;>first|exact noS e|exact .inl ⟨_,_,rfl,rfl⟩|exact .inr (.inl ⟨_,_,rfl,rfl⟩)|exact .inr (.inr ⟨_,_,rfl,rfl⟩))
 rcases inv with⟨l,i,rfl,rfl⟩|⟨l,i,rfl,rfl⟩|⟨z,i,rfl,rfl⟩
 ·cases Rep.bD hb;obtain⟨p,e1,rfl⟩:=wM e;obtain⟨a1,xs,rfl,h1,r1⟩:=Rep.cH ha;obtain⟨v,e2,rv⟩:=Hl r1 e1;exact .inl ⟨a1,xs,i,v,rfl,rfl,s.seq h1,e2,P _ F H (Up.refl s) rv⟩
 ·cases Rep.bD hb;obtain⟨p,e1,rfl⟩:=wM e;obtain⟨a1,xs,rfl,h1,r1⟩:=Rep.dh ha;obtain⟨v,e2,rv⟩:=Hl r1 e1;exact .inr (.inl ⟨a1,xs,i,v,rfl,rfl,s.tup h1,e2,P _ F H (Up.refl s) rv⟩)
 ·cases Rep.bD hb;cases Rep.cG ha;have e:(if z.length<=sizeLine then ofO ((atI z.cps.toList i).map λc=>PV.str ⟨#[c]⟩) else none)=some res:=e;split at e
  ·rename_i hz;obtain⟨p,e1,rfl⟩:=wM e;cases e2:atI z.cps.toList i with
   |none=>rw[e2] at e1;cases e1
   |some c=>
    rw[e2] at e1;cases e1;exact .inr (.inr ⟨z,i,c,rfl,rfl,hz,e2,P _ F H (Up.refl s) .str⟩)
  ·cases e
theorem OD:R2M C (aV K) (aF K) (aF K) (rIx K) FN:=by
 intro F H x y a b res Q s ha hb e P
 match b,e with
 |.int i,e=>
  cases Rep.bD hb;obtain⟨p,e1,rfl⟩:=wM e;obtain⟨a1,xs,rfl,h1,r1⟩:=ha;obtain⟨v,e2,rv⟩:=Hl r1 e1;exact .inl ⟨a1,xs,i,v,rfl,rfl,h1,e2,P _ F H (Up.refl s) rv⟩
def FP(l m:List PV):Option (Res PV):=if l.length+m.length<=sizeLine then some (.ok (.lst (l++m))) else none
def aal(K:Frag):R2:=λx y H Q=>∃ l b xs zs,x=.ref l/\y=.ref b/\SqL K H l xs/\SqL K H b zs/\xs.length+zs.length<=sizeLine/\∀ p,H p=none->Q (.ref p) (upd H p (.lst (xs++zs)))
theorem TV:R2O K C (aV K) (aV K) (aal K) FP:=by
 intro F H x y a b res Q s ha hb e P;unfold FP at e;split at e
 ·rename_i h;cases e;obtain⟨a1,xs,rfl,h1,r1⟩:=ha;obtain⟨a2,ys,rfl,h2,r2⟩:=hb;refine⟨a1,a2,xs,ys,rfl,rfl,h1,h2,by rw[r1.1,r2.1];exact h,λp hp=>?_⟩
  exact P p F _ (Up.zW s hp) hp (s.free hp) ⟨_,aP,r1.append r2⟩
 ·cases e
variable{te:TE}
def MP'(K:Frag)(C:Cg)(t:TO)(f:Fn (Option Int)):Prop:=
 ∀ F H O Z Q r,RE K C.toCf F H O Z->f Z=some r->Pr C F (λo=>∀ F' H',Up F H F' H'->Q o H') r->t O H Q
def mPn:Fn (Option Int):=λ_=>some (.ok none)
def asInt:PV->Option (Res (Option Int))
 |.int i=>some (.ok (some i))
 |_=>none
theorem OJ:MP' K C Oi mPn:=λF H O Z Q r R e P=>by
 cases e;exact P F H (Up.refl R.rb.sub)
theorem O1{f:Fn PV}(h:MJ K C (aF K) te f):MP' K C (Xu te) (m1 asInt f):=by
 intro F H O Z Q r R e P;refine h.run R e P λp v F1 H1 hk u a=>?_
 match p,hk with
 |.int i,hk=>
  cases Rep.bD a;cases hk;exact⟨i,rfl,P F1 H1 u⟩
theorem MP'.run{β:Type}{t:TO}{f:Fn (Option Int)}{O:St}{Z:Rho}{Q:Option Int->Hp->Prop}{ok:β->Prop}{k:Option Int->Option (Res β)}{r:Res β}(h:MP' K C t f)(R:RE K C.toCf F H O Z)(hb:bnd (f Z) k=some r)(P:Pr C F ok r)
  (go:∀ o F1 H1,k o=some r->Up F H F1 H1->Q o H1):t O H Q:=by
 rcases bW hb with⟨z,e,rfl⟩|⟨p,e,hk⟩
 ·exact h F H O Z Q _ R e P
 ·exact h F H O Z Q _ R e λF1 H1 u=>go p F1 H1 hk u
def Bt(l:List PV)(lo hi:Option Int):List PV:=(l.drop (HT.sIx l.length 0 lo)).take (HT.sIx l.length l.length hi-HT.sIx l.length 0 lo)
theorem bR.cut{xs:List V}{l:List PV}(h:bR K F xs l)(lo hi:Option Int):bR K F (GZ xs lo hi) (Bt l lo hi):=by
 unfold GZ Bt;rw[h.1];exact(h.drop _).take _
def Wn(f:Fn (List PV))(lo hi:Fn (Option Int)):Fn PV:=λZ=>bnd (f Z) λl=>bnd (lo Z) λa=>bnd (hi Z) λb=>some (.ok (.lst (Bt l a b)))
theorem Y8{f:Fn (List PV)}{lo hi:Fn (Option Int)}{tl th:TO}(h:MJ K C (aV K) te f)(hl:MP' K C tl lo)(hh:MP' K C th hi):MO K C (tSl (Z6 K) te tl th) (Wn f lo hi):=by
 intro F H O Z Q r R e P;refine h.run R e P λl v F1 H1 hk u a=>?_;refine hl.run (R.up u) hk (P.Bm u) λo F2 H2 hk2 u2=>?_;refine hh.run (R.up (u.trans u2)) hk2 (P.Bm (u.trans u2)) λo2 F3 H3 hk3 u3=>?_;cases hk3;obtain⟨b,xs,rfl,h1,r1⟩:=a;have u23:=u2.trans u3;refine⟨b,xs,rfl,u23.hh.seq h1,λp hp=>?_⟩;exact P p F3 _ (u.trans (u23.trans (Up.zW u3.fh hp))) ((u.hh.trans u23.hh).free hp) (u3.fh.free hp) ⟨_,aP,(r1.up u23.ff).cut _ _⟩
def TX(a b:Option Int):PV->Option (Res PV)
 |.tup l=>if ¬(HT.sIx l.length 0 a=0/\HT.sIx l.length l.length b=l.length) then some (.ok (.tup (Bt l a b))) else none
 |_=>none
def Wo(f:Fn PV)(lo hi:Fn (Option Int)):Fn PV:=λZ=>bnd (f Z) λz=>bnd (lo Z) λa=>bnd (hi Z) λb=>TX a b z
theorem Y9{f:Fn PV}{lo hi:Fn (Option Int)}{tl th:TO}(h:MJ K C (aF K) te f)(hl:MP' K C tl lo)(hh:MP' K C th hi):MJ K C (aF K) (tSl (Z2 K) te tl th) (Wo f lo hi):=by
 intro F H O Z Q r R e P;refine h.run R e P λl v F1 H1 hk u a=>?_;refine hl.run (R.up u) hk (P.later u) λo F2 H2 hk2 u2=>?_;refine hh.run (R.up (u.trans u2)) hk2 (P.later (u.trans u2)) λo2 F3 H3 hk3 u3=>?_
 match l,hk3 with
 |.tup l,hk3=>
  have hk3:(if ¬(HT.sIx l.length 0 o=0/\HT.sIx l.length l.length o2=l.length) then some (Res.ok (PV.tup (Bt l o o2))) else none)=some r:=hk3;split at hk3
  ·rename_i hz;cases hk3;obtain⟨b,xs,rfl,h1,r1⟩:=Rep.dh a;have u23:=u2.trans u3;refine⟨b,xs,rfl,(u23.ff.trans u3.fh).tup h1,by rw[r1.1];exact hz,λp hp=>?_⟩
   have un:=Up.new (o:=.tup (GZ xs o o2)) u3.fh hp;have rc:=(r1.up u23.ff).cut o o2;exact P _ _ _ (u.trans (u23.trans un)) (.tup aP rc.1 (rc.up un.ff).2)
  ·cases hk3
end
def TY(K:Frag)(tl:TE):TI:=λO H R=>tl O H λx H1=>(∃ a,x=.ref a/\(∃ xs,SqL K H1 a xs)/\R (Itl K a) H1)\/(∃ a,x=.ref a/\(∃ xs,SqT K H1 a xs)/\R (Itt K a) H1)\/∃ z,x=.str z/\R (Itf (sgn z) z.cps.size) H1
theorem ie{X:Cx}{tg l:Expr}{tl:TE}(hl:PE X l tl):PI X tg l (TY X.K tl):=by
 intro pins s O H R I h;refine thn (hl pins s O H _ I h) ?_;rintro v s1 ⟨x,H1,I1,r1,q1⟩;have keep:∀ (o:Obj),Inv X pins O H1 { s1 with heap:=s1.heap.push o }:=λo=>I1.kept (t':=s1.toks) λb ob e=>Zai _ e;have fp:∀ b∈[s1.heap.objs.size],Az X pins H1 b:=λb hb=>by
  have e:b=s1.heap.objs.size:=by simpa using hb
  subst e;exact I1.Ej (Zal _) (I1.hok.fresh (Zal _))
 rcases q1 with⟨a,rfl,⟨xs,hq⟩,q⟩|⟨a,rfl,⟨xs,hq⟩,q⟩|⟨z,rfl,q⟩
 ·cases r1;obtain⟨its,rv,p,hz⟩:=I1.list hq;exact wpAny_pyIter_list p.isList ⟨_,[_],_,_,H1,rfl,keep _,QJ a _,⟨_,Zar _ rfl,rfl,rfl⟩,fp,q⟩
 ·cases r1;obtain⟨its,rv,p,hz⟩:=I1.tuple hq;exact wpAny_pyIter_tuple (show s1.heap.IsTuple a its.toArray from p) ⟨_,[_],_,_,H1,rfl,keep _,Mh a _,⟨_,Zar _ rfl,rfl,rfl⟩,fp,q⟩
 ·obtain⟨t,rfl⟩:=r1;exact wpAny_pyIter_strU ⟨_,[_],_,_,H1,rfl,keep _,SJ _ z t,⟨_,Zar _ rfl,rfl,rfl⟩,fp,q⟩
section
variable{K:Frag}{C:Cg}{F H:Hp}{O:St}{Z:Rho}{te:TE}{tA:TA}{a:Addr}{xs:List V}{l:List PV}
def signs(z:Str):List PV:=z.cps.toList.map λc=>.str ⟨#[c]⟩
def lO:PV->Option (Res (List PV))
 |.lst l=>some (.ok l)
 |.tup l=>some (.ok l)
 |.str z=>some (.ok (signs z))
 |_=>none
theorem T3(h:SqL K F a xs)(r:bR K F xs l):ItR K (Itl K a) F l where
 stop:=λF' H' s s'=>⟨xs,(s.trans s').seq h,by rw[r.1];exact Zal _⟩
 go:=λi F' H' hi s s'=>⟨xs,xs[i]'(by rw[r.1];exact hi),(s.trans s').seq h,by simp⟩
 yld:=λi F' H' x H'' hi s s' y=>by
  obtain⟨rfl,y⟩:=y;have e:=y xs ((s.trans s').seq h);obtain⟨p,e2,rp⟩:=r.got e;exact⟨F',p,Up.refl s',e2,rp.up s⟩
theorem Wq(h:SqT K F a xs)(r:bR K F xs l):ItR K (Itt K a) F l where
 stop:=λF' H' s s'=>⟨xs,(s.trans s').tup h,by rw[r.1];exact Zal _⟩
 go:=λi F' H' hi s s'=>⟨xs,xs[i]'(by rw[r.1];exact hi),(s.trans s').tup h,by simp⟩
 yld:=λi F' H' x H'' hi s s' y=>by
  obtain⟨rfl,y⟩:=y;have e:=y xs ((s.trans s').tup h);obtain⟨p,e2,rp⟩:=r.got e;exact⟨F',p,Up.refl s',e2,rp.up s⟩
theorem Ws(z:Str):ItR K (Itf (sgn z) z.cps.size) F (signs z) where
 stop:=λF' H' s s'=>by simp[signs,Itf]
 go:=λi F' H' hi s s'=>by simpa[signs,Itf] using hi
 yld:=λi F' H' x H'' hi s s' y=>by
  obtain⟨rfl,rfl⟩:=y;have hi':i<z.cps.size:=by simpa[signs] using hi
  refine⟨F',.str ⟨#[z.cps.getD i 0]⟩,Up.refl s',?_,.str⟩;unfold signs;rw[Zad,Zbm,Za0,ZaS hi'];rfl
theorem jf{f:Fn PV}(h:MJ K C (aF K) te f):MI K C (TY K te) (m1 lO f):=by
 intro F H O Z R' r R e P;refine h.run R e P λp v F1 H1 hk u a=>?_
 match p,hk with
 |.lst l,hk=>
  cases hk;obtain⟨b,xs,rfl,h1,r1⟩:=Rep.cH a;exact .inl ⟨b,rfl,⟨xs,u.fh.seq h1⟩,P _ F1 H1 u (T3 h1 r1)⟩
 |.tup l,hk=>
  cases hk;obtain⟨b,xs,rfl,h1,r1⟩:=Rep.dh a;exact .inr (.inl ⟨b,rfl,⟨xs,u.fh.tup h1⟩,P _ F1 H1 u (Wq h1 r1)⟩)
 |.str z,hk=>
  cases hk;cases Rep.cG a;exact .inr (.inr ⟨z,rfl,P _ F1 H1 u (Ws z)⟩)
def qi(lo:Int)(n:Nat):List PV:=(List.range n).map λ(i:Nat)=>.int (lo+(i:Int))
theorem jx(lo:Int)(n:Nat):(qi lo n).length=n:=by simp[qi]
theorem O2(lo:Int)(n:Nat):ItR K (Itr lo n) F (qi lo n) where
 stop:=λF' H' s s'=>by rw[jx];exact Zal _
 go:=λi F' H' hi s s'=>by rw[jx] at hi;exact hi
 yld:=λi F' H' x H'' hi s s' y=>by
  obtain⟨rfl,rfl⟩:=y;rw[jx] at hi;refine⟨F',.int (lo+i),Up.refl s',?_,.int⟩;unfold qi;rw[Zad,Za4 hi];rfl
def m7:List PV->Option (Res (List PV))
 |[.int j]=>if -(2^62)<=j/\j<2^62 then some (.ok (qi 0 j.toNat)) else none
 |_=>none
def Hm:List PV->Option (Res (List PV))
 |[.int i,.int j]=>if -(2^62)<=i/\i<2^62/\-(2^62)<=j/\j<2^62 then some (.ok (qi i (j-i).toNat)) else none
 |_=>none
theorem mF{f:Fn (List PV)}(h:MA K C tA f):MI K C (Xp tA) (m1 m7 f):=by
 intro F H O Z R' r R e P;refine h.run R e P λl xs F1 H1 hk u a=>?_;have inv:∃ j,l=[.int j]:=by
  clear P u a
  rcases l with _|⟨x,_|⟨y,l⟩⟩<;>first|exact noS hk|(cases x<;>first|exact noS hk|exact⟨_,rfl⟩)
 obtain⟨j,rfl⟩:=inv;have hk:(if -(2^62)<=j/\j<2^62 then some (Res.ok (qi 0 j.toNat)) else none)=some r:=hk;split at hk
 ·rename_i hj;cases hk;obtain⟨v,ys,rfl,r1,r2⟩:=a.dD;cases r2.jD;cases Rep.bD r1;exact⟨j,rfl,hj.1,hj.2,P _ F1 H1 u (O2 0 j.toNat)⟩
 ·cases hk
theorem O3{f:Fn (List PV)}(h:MA K C tA f):MI K C (Xq tA) (m1 Hm f):=by
 intro F H O Z R' r R e P;refine h.run R e P λl xs F1 H1 hk u a=>?_;have inv:∃ i j,l=[.int i,.int j]:=by
  clear P u a
  rcases l with _|⟨x,_|⟨y,_|⟨z,l⟩⟩⟩<;>first|exact noS hk|(cases x<;>first|exact noS hk|(cases y<;>first|exact noS hk|exact⟨_,_,rfl⟩))
 obtain⟨i,j,rfl⟩:=inv;have hk:(if -(2^62)<=i/\i<2^62/\-(2^62)<=j/\j<2^62 then some (Res.ok (qi i (j-i).toNat)) else none)=some r:=hk;split at hk
 ·rename_i hj;cases hk;obtain⟨v,ys,rfl,r1,r2⟩:=a.dD;obtain⟨w,zs,rfl,r3,r4⟩:=r2.dD;cases r4.jD;cases Rep.bD r1;cases Rep.bD r3;exact⟨i,j,rfl,hj,P _ F1 H1 u (O2 i (j-i).toNat)⟩
 ·cases hk
def qM(l:List PV):List PV:=l.mapIdx λ(i:Nat) x=>.tup [.int i,x]
def yC:List PV->Option (Res (List PV))
 |[.lst l]=>some (.ok (qM l))
 |_=>none
theorem Ah{f:Fn (List PV)}(h:MA K C tA f):MI K C (Xw K tA) (m1 yC f):=by
 intro F H O Z R' r R e P;refine h.run R e P λl xs F1 H1 hk u a=>?_;have inv:∃ m,l=[.lst m]:=by
  clear P u a
  rcases l with _|⟨x,_|⟨y,l⟩⟩<;>first|exact noS hk|(cases x<;>first|exact noS hk|exact⟨_,rfl⟩)
 obtain⟨l,rfl⟩:=inv;cases hk;obtain⟨v,ys,rfl,r1,r2⟩:=a.dD;cases r2.jD;obtain⟨b,xs,rfl,h1,r1⟩:=Rep.cH r1;have hl:(qM l).length=l.length:=by simp[qM]
 refine⟨b,rfl,⟨xs,u.fh.seq h1⟩,P _ F1 H1 u ⟨λF' H' s s'=>?_,λi F' H' hi s s'=>?_,λi F' H' x H'' hi s s' y=>?_⟩⟩
 ·exact⟨xs,(s.trans s').seq h1,by rw[hl,r1.1];exact Zal _⟩
 ·rw[hl] at hi;exact⟨xs,xs[i]'(by rw[r1.1];exact hi),(s.trans s').seq h1,by simp⟩
 ·obtain⟨p,y,hp,rfl,rfl,hy⟩:=y;have e:=hy xs ((s.trans s').seq h1);obtain⟨q,e2,rq⟩:=r1.got e;have un:=Up.new (o:=.tup [.int i,y]) s' hp;refine⟨_,.tup [.int i,q],un,?_,.tup aP rfl λj x p hx hp'=>?_⟩
  ·unfold qM;rw[Zcb,e2];rfl
  ·match j with
   |0=>simp at hx hp';subst hx hp';exact .int
   |1=>simp at hx hp';subst hx hp';exact rq.up (s.trans un.ff)
   |j+2=>simp at hx
def NoO(Z:Rho):Prop:=∀ (j:Nat) q,Z[j]?≠some (some (.ow q))/\Z[j]?≠some (some (.dp q))
def Wr(T:List Nat)(tg:PV->Rho->Option Rho):Prop:=∀ x Z Z',tg x Z=some Z'->Z'.length=Z.length/\(∀ j,j ∉ T->Z'[j]?=Z[j]?)/\(NoO Z->NoO Z')
def WrS(T:List Nat)(tg:List PV->Rho->Option Rho):Prop:=∀ x Z Z',tg x Z=some Z'->Z'.length=Z.length/\(∀ j,j ∉ T->Z'[j]?=Z[j]?)/\(NoO Z->NoO Z')
theorem cM(i:Nat):Wr [i] (gN i):=λx Z Z' e=>by
 cases e;refine⟨by simp,λj hj=>?_,λh j q=>⟨λe=>?_,λe=>?_⟩⟩
 ·rw[Zax (by simpa using Zbj (by simpa using hj))]
 ·rcases get_set e with⟨_,e2⟩|⟨_,e2⟩
  ·cases e2
  ·exact(h j q).1 e2
 ·rcases get_set e with⟨_,e2⟩|⟨_,e2⟩
  ·cases e2
  ·exact(h j q).2 e2
theorem wN:WrS [] gsNil:=λx Z Z' e=>by
 cases x with
 |nil=>cases e;exact⟨rfl,λ_ _=>rfl,λh=>h⟩
 |cons p l=>cases e
theorem iU{T U:List Nat}{t:PV->Rho->Option Rho}{u:List PV->Rho->Option Rho}(h:Wr T t)(hs:WrS U u):WrS (T++U) (gsCons t u):=λx Z Z' e=>by
 cases x with
 |nil=>cases e
 |cons p l=>
  have e:(match t p Z with
   |some Z'=>u l Z'
   |none=>none)=some Z':=e
  split at e
  ·rename_i ρ1 h1;obtain⟨a1,a2,a3⟩:=h p Z ρ1 h1;obtain⟨b1,b2,b3⟩:=hs l ρ1 Z' e;exact⟨b1.trans a1,λj hj=>(b2 j λz=>hj (ZaN _ z)).trans (a2 j λz=>hj (Zbv _ z)),λz=>b3 (a3 z)⟩
  ·cases e
theorem Bu{n:Nat}{U:List Nat}{u:List PV->Rho->Option Rho}(hs:WrS U u):Wr U (gT n u):=λx Z Z' e=>by
 unfold gT at e;split at e
 ·split at e
  ·exact hs _ Z Z' e
  ·cases e
 ·cases e
def shOnly:Option Sl->Option Sl
 |some (.sh p)=>some (.sh p)
 |_=>none
def frR(fr:List (Option Nat))(Z:Rho):Rho:=fr.map λo=>match o with
 |some i=>match Z[i]? with
  |some v=>shOnly v
  |none=>none
 |none=>none
def fD(tg:PV->Rho->Option Rho)(tst:Fn Bool)(el:Fn PV)(ρb:Rho):List PV->Option (Res (List PV))
 |[]=>some (.ok [])
 |x::xs=>match tg x ρb with
  |none=>none
  |some ρ1=>bnd (tst ρ1) λb=>if b=true then bnd (el ρ1) λp=>bnd (fD tg tst el ρb xs) λr=>some (.ok (p::r)) else fD tg tst el ρb xs
def fZ(it:Fn (List PV))(fr:List (Option Nat))(tg:PV->Rho->Option Rho)(tst:Fn Bool)(el:Fn PV):Fn PV:=λZ=>bnd (it Z) λl=>
 if l.length<=sizeLine then bnd (fD tg tst el (frR fr Z) l) λr=>some (.ok (.lst r)) else none
def rF:Fn Bool:=λ_=>some (.ok true)
theorem pq:MT K C Z9 rF:=λF H O Z Q r R e P=>by
 cases e;exact P F H (Up.refl R.rb.sub)
theorem RE.block(R:RE K C.toCf F H O Z)(fr:List (Option Nat)):RE K C.toCf F H (frσ fr O) (frR fr Z)/\NoO (frR fr Z):=by
 have nd:∀ (j:Nat) q,(frR fr Z)[j]?≠some (some (.dp q)):=λj q e=>by
  unfold frR at e;rw[Zad] at e;cases e1:fr[j]? with
  |none=>rw[e1] at e;cases e
  |some o=>
   rw[e1] at e;cases o with
   |none=>cases e
   |some i=>
    simp only[Zbt,ZcT] at e;split at e
    ·rename_i v hv;unfold shOnly at e;split at e<;>cases e
    ·cases e
 have no:∀ (j:Nat) q,(frR fr Z)[j]?≠some (some (.ow q)):=λj q e=>by
  unfold frR at e;rw[Zad] at e;cases e1:fr[j]? with
  |none=>rw[e1] at e;cases e
  |some o=>
   rw[e1] at e;cases o with
   |none=>cases e
   |some i=>
    simp only[Zbt,ZcT] at e;split at e
    ·rename_i v hv;unfold shOnly at e;split at e<;>cases e
    ·cases e
 refine⟨⟨R.rb,by unfold frσ frR;simp,λj p e=>?_,λj p e=>absurd e (no j p),λi j p q a e=>absurd e (no i p),_,RD.no nd⟩,λj q=>⟨no j q,nd j q⟩⟩
 unfold frR at e;rw[Zad] at e;unfold frσ;rw[Zad];cases e1:fr[j]? with
 |none=>rw[e1] at e;cases e
 |some o=>
  rw[e1] at e;cases o with
  |none=>cases e
  |some i=>
   simp only[Zbt,ZcT] at e ⊢;split at e
   ·rename_i v hv;unfold shOnly at e;split at e
    ·cases e;obtain⟨w,e2,e3⟩:=R.sh i _ hv;exact⟨w,by rw[e2],e3⟩
    ·cases e
   ·cases e
theorem RE.other(R:RE K C.toCf F H O Z){D:Addr}{o:HO}(hf:F D=none)(h0:C.H0 D=none)(no:NoO Z):RE K C.toCf F (upd H D o) O Z where
 rb:=⟨λb u q=>by rw[aL (cj q hf)];exact R.rb.sub b u q,λb u q n=>by rw[aL (cj q h0)];exact R.rb.keep b u q n,R.rb.new,λb hb=>⟨by
  have:=(R.rb.ios b hb);by_cases hbD:b=D
  ·subst hbD;exact absurd h0 this.2
  ·rw[aL hbD];exact this.1,(R.rb.ios b hb).2⟩⟩
 len:=R.len
 sh:=R.sh
 ow:=λi p e=>absurd e (no i p).1
 dis:=λi j p q a e=>absurd e (no i p).1
 dd:=⟨_,RD.no λi p=>(no i p).2⟩
theorem RE.weak{Z':Rho}(R:RE K C.toCf F H O Z')(hl:Z.length=Z'.length)(h:∀ (j:Nat) s,Z[j]?=some (some s)->Z'[j]?=some (some s)):RE K C.toCf F H O Z where
 rb:=R.rb
 len:=by rw[R.len,hl]
 sh:=λi p e=>R.sh i p (h i _ e)
 ow:=λi p e=>R.ow i p (h i _ e)
 dis:=λi j p q a e e'=>R.dis i j p q a (h i _ e) (h j _ e')
 dd:=let⟨P,d⟩:=R.dd;⟨P,d.own,d.dis,λi j q b z e=>d.ow i j q b z (h j _ e),λi p e=>d.dp i p (h i _ e)⟩
structure ItH(K:Frag)(J:It)(F H:Hp)(l:List PV):Prop where
 stop:∀ F' H',aU F F'->aU F' H'->aU H H'->J.stop l.length H'
 go:∀ i F' H',i<l.length->aU F F'->aU F' H'->aU H H'->J.go i H'
 yld:∀ i F' H' x H'',i<l.length->aU F F'->aU F' H'->aU H H'->J.yld i H' x H''->∃ F'' p,Up F' H' F'' H''/\l[i]?=some p/\Rep K F'' x p
def MIH(K:Frag)(C:Cg)(wi:TI)(f:Fn (List PV)):Prop:=
 ∀ F H O Z R' r,RE K C.toCf F H O Z->f Z=some r->Pr C F (λl=>∀ J F' H',Up F H F' H'->ItH K J F' H' l->R' J H') r->wi O H R'
theorem MI.h{wi:TI}{f:Fn (List PV)}(h:MI K C wi f):MIH K C wi f:=λF H O Z R' r R e P=>
 h F H O Z R' r R e (Pr.mono P (aU.refl _) λl q J F' H' u x=>q J F' H' u ⟨λa b c d _=>x.stop a b c d,λi a b hi c d _=>x.go i a b hi c d,λi a b y z hi c d _=>x.yld i a b y z hi c d⟩)
theorem T4(h:SqL K H a xs)(r:bR K F xs l):ItH K (Itl K a) F H l where
 stop:=λF' H' s s' t=>⟨xs,t.seq h,by rw[r.1];exact Zal _⟩
 go:=λi F' H' hi s s' t=>⟨xs,xs[i]'(by rw[r.1];exact hi),t.seq h,by simp⟩
 yld:=λi F' H' x H'' hi s s' t y=>by
  obtain⟨rfl,y⟩:=y;have e:=y xs (t.seq h);obtain⟨p,e2,rp⟩:=r.got e;exact⟨F',p,Up.refl s',e2,rp.up s⟩
theorem T5{f:Fn (List PV)}(h:MJ K C (aV K) te f):MIH K C (TY K te) f:=by
 intro F H O Z R' r R e P;refine h F H O Z _ r R e (Pr.mono P (aU.refl _) λl q v F1 H1 u x=>?_);obtain⟨b,xs,rfl,hs,hr⟩:=x;exact .inl ⟨b,rfl,⟨xs,hs⟩,q _ F1 H1 u (T4 hs hr)⟩
theorem mU{α β γ:Type}{x:Option (Res α)}{f:α->Option (Res β)}{g:β->Option (Res γ)}:bnd (bnd x f) g=bnd x λa=>bnd (f a) g:=by
 match x with
 |some (.ok a)=>rfl
 |some (.ex z)=>rfl
 |none=>rfl
theorem JK{wi:TI}{it:Fn (List PV)}{fr:List (Option Nat)}{gt:TG}{tg:PV->Rho->Option Rho}{T:List Nat}{tc:TT}{tst:Fn Bool}{el:Fn PV}(hi:MIH K C wi it)(hg:MG K C gt tg)(hT:Wr T tg)(ht:MT K C tc tst)(he:MJ K C (aF K) te el)
  (hfr:T.all (λj=>fr[j]?==some none)=true:=by rfl):MO K C (Fv wi fr gt tc te) (fZ it fr tg tst el):=by
 intro F H O Z Q r R e P;rcases bW e with⟨z,e1,rfl⟩|⟨l,e1,hk⟩
 ·exact hi F H O Z _ _ R e1 P
 split at hk
 case isFalse=>cases hk
 rename_i hlen;refine hi F H O Z _ _ R e1 λJ F1 H1 u hJ D hD=>?_;have R1:=R.up u;obtain⟨Rb,no⟩:=R1.block fr;have hD0:C.H0 D=none:=R1.rb.wK hD;have hFD:F1 D=none:=u.fh.free hD;have hρ:∀ (j:Nat),j∈T->(frR fr Z)[j]?=some none:=λj hj=>by
  have:=ZaP.mp hfr j hj;unfold frR;rw[Zad,show fr[j]?=some none by simpa using this]
  rfl
 refine⟨λi m O' H'=>∃ F' ys acc,m=l.length-i/\i<=l.length/\aU F1 F'/\(∀ b o,F' b=some o->F1 b=some o\/Frz H1 b o)/\aU H1 H'/\H' D=some (.lst ys)/\F' D=none/\bR K F' ys acc/\acc.length<=i /\
   RE K C.toCf F' H' O' (frR fr Z)/\bnd (fD tg tst el (frR fr Z) (l.drop i)) (λr=>some (.ok (.lst (acc++r))))=some r,
  ⟨l.length,F1,[],[],by simp,Za7 _,aU.refl _,λ_ _ q=>.inl q,fj hD,aP,hFD,.nil,Zal _,Rb.other hFD hD0 no,by rw[ZcN];exact hk⟩,?_⟩
 rintro i m O' H' ⟨F',ys,acc,rfl,hil,s1,fr1,sH,eD,nD,ra,hacc,R',e'⟩;by_cases hlt:i<l.length
 case neg=>
  have ei:i=l.length:=by omega
  subst ei;rw[ZcY] at e';have e':some (Res.ok (PV.lst (acc++[])))=some r:=e';rw[Za1] at e';cases e';exact .inl ⟨hJ.stop F' H' s1 R'.rb.sub sH,P D F' H' (u.trans ⟨s1,sH,fr1,R'.rb.sub⟩) (u.hh.free hD) nD ⟨ys,eD,ra⟩⟩
 refine .inr ⟨hJ.go i F' H' hlt s1 R'.rb.sub sH,λσ2 H2=>∃ F2 ys acc,aU F1 F2/\(∀ b o,F2 b=some o->F1 b=some o\/Frz H1 b o)/\aU H1 H2/\H2 D=some (.lst ys)/\F2 D=none/\bR K F2 ys acc/\acc.length<=i+1 /\
   RE K C.toCf F2 H2 σ2 (frR fr Z)/\bnd (fD tg tst el (frR fr Z) (l.drop (i+1))) (λr=>some (.ok (.lst (acc++r))))=some r,
  λσ2 H2 ⟨F2,ys,acc,z⟩=>⟨l.length-(i+1),by omega,F2,ys,acc,rfl,hlt,z⟩,λx H'' y=>?_⟩
 obtain⟨F'',p,u2,ep,rx⟩:=hJ.yld i F' H' x H'' hlt s1 R'.rb.sub sH y;have ed:l.drop i=p::l.drop (i+1):=by
  rw[ZbQ hlt];rw[Zae hlt] at ep;rw[Zaf ep]
 rw[ed,fD] at e';split at e'
 ·cases e'
 rename_i ρ1 h1;obtain⟨w1,w2,w3⟩:=hT p _ ρ1 h1;have no1:=w3 no;have weak:∀ (j:Nat) s,(frR fr Z)[j]?=some (some s)->ρ1[j]?=some (some s):=λj s ej=>by
  rw[w2 j λz=>by rw[hρ j z] at ej;cases ej];exact ej
 refine hg F'' H'' O' (frR fr Z) x p ρ1 _ (R'.up u2) rx h1 λσ1 R1'=>?_;have stay:∀ {F3 H3:Hp},Up F' H' F3 H3->aU F1 F3/\(∀ b o,F3 b=some o->F1 b=some o\/Frz H1 b o)/\aU H1 H3/\H3 D=some (.lst ys)/\F3 D=none/\bR K F3 ys acc:=λ{F3 H3} u3=>by
  refine⟨s1.trans u3.ff,λb o q=>?_,sH.trans u3.hh,u3.hh _ _ eD,?_,ra.up u3.ff⟩
  ·rcases u3.fr b o q with z|z
   ·exact fr1 b o z
   ·exact .inr (z.imp (λz=>sH.free z) id)
  ·cases q:F3 D with
   |none=>rfl
   |some o=>
    rcases u3.fr D o q with z|z|⟨ys,z⟩
    ·rw[nD] at z;cases z
    ·rw[eD] at z;cases z
    ·subst z;have w:=u3.fh _ _ q;rw[u3.hh _ _ eD] at w;cases w
 have Pl:∀ {F3 H3:Hp},Up F' H' F3 H3->∀ {z:PV},r=.ex z->PX C F3 z:=λ{F3 H3} u3 {z} ez=>by
  subst ez;exact PX.up P (u.ff.trans (s1.trans u3.ff))
 rw[mU] at e';rcases bW e' with⟨z',e4,ez⟩|⟨b,e4,e5⟩
 ·exact ht F'' H'' σ1 ρ1 _ _ R1' e4 (Pl u2 ez)
 refine ht F'' H'' σ1 ρ1 _ _ R1' e4 λF3 H3 u3=>?_;have u23:=u2.trans u3;cases b with
 |false=>
  rw[Zam (by decide)] at e5 ⊢
  obtain⟨a1,a2,a3,a4,a5,a6⟩:=stay u23;exact⟨F3,ys,acc,a1,a2,a3,a4,a5,a6,by omega,(R1'.up u3).weak w1.symm weak,e5⟩
 |true=>
  rw[Zan rfl] at e5 ⊢;rw[mU] at e5;rcases bW e5 with⟨z',e6,ez⟩|⟨q,e6,e7⟩
  ·exact he F3 H3 σ1 ρ1 _ _ (R1'.up u3) e6 (Pl u23 ez)
  refine he F3 H3 σ1 ρ1 _ _ (R1'.up u3) e6 λv F4 H4 u4 rv=>?_;have u24:=u23.trans u4;obtain⟨a1,a2,a3,a4,a5,a6⟩:=stay u24;refine⟨ys,a4,by rw[a6.1];omega,F4,ys++[v],acc++[q],a1,a2,Fx hD a3,aP,a5,a6.snoc rv,by simp;omega,((R1'.up (u3.trans u4)).other a5 hD0 no1).weak w1.symm weak,?_⟩
  rw[mU] at e7;rw[<-e7];congr 1
  funext rr
  show some (Res.ok (PV.lst (acc++[q]++rr)))=some (Res.ok (PV.lst (acc++q::rr)))
  rw[Zby];rfl
theorem jg{wi:TI}{it:Fn (List PV)}{fr:List (Option Nat)}{gt:TG}{tg:PV->Rho->Option Rho}{T:List Nat}{tc:TT}{tst:Fn Bool}{el:Fn PV}(hi:MI K C wi it)(hg:MG K C gt tg)(hT:Wr T tg)(ht:MT K C tc tst)(he:MJ K C (aF K) te el)
  (hfr:T.all (λj=>fr[j]?==some none)=true:=by rfl):MO K C (Fv wi fr gt tc te) (fZ it fr tg tst el):=JK hi.h hg hT ht he hfr
end
def tyN:PV->Option String
 |.non=>some "NoneType"
 |.bl _=>some "bool"
 |.int _=>some "int"
 |.str _=>some "str"
 |.tup _=>some "tuple"
 |.lst _=>some "list"
 |.dk _=>some "dict"
 |.dt _=>some "dict"
 |_=>none
def Za(t T:String):Option Bool:=
 if t=T then some true else
 if T="int" then some (t=="bool") else
 if T="bool"\/T="str"\/T="tuple"\/T="list"\/T="dict" then some false else none
theorem Wt{K:Frag}{p:PV}{t T:String}{b:Bool}(h:tyN p=some t)(e:Za t T=some b):PySem.W.kitOne K (.type t) (.type T)=some b:=by
 have ht:t="NoneType"\/t="bool"\/t="int"\/t="str"\/t="tuple"\/t="list"\/t="dict":=by
  cases p<;>simp[tyN] at h<;>subst h<;>simp
 unfold Za at e;split at e
 ·rename_i e1;subst e1;cases e;exact SQ
 ·split at e
  ·rename_i n1 e1;subst e1;cases e;rcases ht with rfl|rfl|rfl|rfl|rfl|rfl|rfl<;>first|exact absurd rfl n1|kernel_rfl
  ·split at e
   ·rename_i n1 n2 e1;cases e;rcases e1 with rfl|rfl|rfl|rfl|rfl<;>rcases ht with rfl|rfl|rfl|rfl|rfl|rfl|rfl<;>first|exact absurd rfl n1|kernel_rfl
   ·cases e
def isI(p:PV)(T:String):Option Bool:=match tyN p with
 |some t=>Za t T
 |none=>none
section
variable{X:Cx}
def aam(K:Frag):List V->Hp->VK->Prop:=λxs H Q=>∃ x p T b,xs=[x,.ty T]/\Rep K H x p/\isI p T=some b/\Q (.bl b) H
theorem m8:mW X (.builtin "isinstance") (aam X.K):=by
 intro pins s O H xs us Q I rv h;obtain⟨x,p,T,b,rfl,rp,e,q⟩:=h;obtain⟨u,v,rfl,ru,rw'⟩:=rv.two;cases rw';have fin:∀ tk,EP X pins O Q (.bool b) { s with toks:=tk }:=λtk=>⟨.bl b,H,I.tok _,rfl,q⟩;unfold isI at e;split at e
 case h_2=>cases e
 rename_i t ht;have ek:=Wt (K:=X.K) ht e;cases rp with
 |non=>cases ru;cases ht;exact ZbF PySem.W.kitx_none I.kIn True.intro ek (λz=>nomatch z) fin
 |bl=>cases ru;cases ht;exact ZbF PySem.W.kitx_bool I.kIn True.intro ek (λz=>nomatch z) fin
 |int=>obtain⟨t,rfl⟩:=ru;cases ht;exact ZbF PySem.W.kitx_int I.kIn True.intro ek (λz=>nomatch z) fin
 |str=>obtain⟨t,rfl⟩:=ru;cases ht;exact ZbF PySem.W.kitx_str I.kIn True.intro ek (λz=>nomatch z) fin
 |ty=>cases ht
 |tup h=>
  cases ru;cases ht;obtain⟨_,_,⟨o,h1,h2,_⟩,_⟩:=I.tuple (SqT.of h);exact ZbF PySem.W.kitx_tuple I.kIn ⟨o,h1,h2⟩ ek (λz=>nomatch z) fin
 |lst h=>
  cases ru;cases ht;obtain⟨_,_,⟨o,n,h1,h2,_⟩,_⟩:=I.list h;exact ZbF PySem.W.kitx_list I.kIn ⟨o,h1,h2⟩ ek (λz=>nomatch z) fin
 |dk h=>
  cases ru;cases ht;obtain⟨_,_,vs,_,o,es,ep,h1,h2,_⟩:=h.ok I.hok;exact ZbF PySem.W.kitx_dict I.kIn ⟨o,h1,h2.1⟩ ek (λz=>nomatch z) fin
 |dt h=>
  cases ru;cases ht;obtain⟨_,_,vs,_,o,es,ep,h1,h2,_⟩:=h.ok I.hok;exact ZbF PySem.W.kitx_dict I.kIn ⟨o,h1,h2.1⟩ ek (λz=>nomatch z) fin
 |exc=>cases ht
 |exc0=>cases ht
end
section
variable{K:Frag}{C:Cg}{α β γ:Type}{A:Rel α}{B:Rel β}{D:Rel γ}{ta tb:TE}{f:Fn α}{g:Fn β}{rr:List V->Hp->VK->Prop}
def R1M(C:Cg)(A:Rel α)(D:Rel γ)(rr:List V->Hp->VK->Prop)(op:α->Option (Res γ)):Prop:=
 ∀ F H x a res Q,aU F H->A F H x a->op a=some res->Pr C F (λc=>∀ v F' H',Up F H F' H'->D F' H' v c->Q v H') res->rr [x] H Q
theorem iJ{op:α->Option (Res γ)}(rule:R1M C A D rr op)(ha:MJ K C A ta f):MJ K C D (tCB rr (jU ta uX)) (m1 op f):=by
 intro F H O Z Q r R e P;refine ha.run R e P λp v F1 H1 hk u a=>?_;exact rule F1 H1 v p r Q u.fh a hk (P.later u)
def R1O(K:Frag)(C:Cg)(A:Rel α)(rr:List V->Hp->VK->Prop)(op:α->Option (Res PV)):Prop:=
 ∀ F H x a res Q,aU F H->A F H x a->op a=some res->Pr C F (λp=>∀ a F' H',Up F H F' H'->H a=none->F' a=none->Own K F' H' a p->Q (.ref a) H') res->rr [x] H Q
theorem lF{op:α->Option (Res PV)}(rule:R1O K C A rr op)(ha:MJ K C A ta f):MO K C (tCB rr (jU ta uX)) (m1 op f):=by
 intro F H O Z Q r R e P;refine ha.run R e P λp v F1 H1 hk u a=>?_;exact rule F1 H1 v p r Q u.fh a hk (P.Bm u)
def R2B(C:Cg)(A:Rel α)(B:Rel β)(D:Rel γ)(rr:List V->Hp->VK->Prop)(op:α->β->Option (Res γ)):Prop:=
 ∀ F H x y a b res Q,aU F H->A F H x a->B F H y b->op a b=some res->Pr C F (λc=>∀ v F' H',Up F H F' H'->D F' H' v c->Q v H') res->rr [x,y] H Q
theorem vh{op:α->β->Option (Res γ)}(up:UpM A)(rule:R2B C A B D rr op)(ha:MJ K C A ta f)(hb:MJ K C B tb g):MJ K C D (tCB rr (jU ta (jU tb uX))) (m2 op f g):=by
 intro F H O Z Q r R e P;refine ha.run R e P λp v F1 H1 hk u a=>?_;refine hb.run (R.up u) hk (P.later u) λq w F2 H2 hk2 u2 b=>?_;exact rule F2 H2 v w p q r Q u2.fh (up _ _ _ _ _ _ u2 a) b hk2 (P.later (u.trans u2))
def jF:PV->Option (Res PV)
 |.str z=>if z.length<=sizeLine then some (.ok (.int z.length)) else none
 |.lst l=>some (.ok (.int l.length))
 |.tup l=>some (.ok (.int l.length))
 |_=>none
theorem m9:R1M C (aH K) (aF K) (λxs H Q=>∃ x n,xs=[x]/\Z0 K x H n/\Q (.int n) H) jF:=by
 intro F H x a res Q s ha e P
 match a,e with
 |.str z,e=>
  cases Rep.cG ha;have e:(if z.length<=sizeLine then some (Res.ok (PV.int z.length)) else none)=some res:=e;split at e
  ·rename_i hz;cases e;exact⟨_,_,rfl,⟨hz,rfl⟩,P _ F H (Up.refl s) .int⟩
  ·cases e
 |.lst l,e=>
  cases e;obtain⟨b,xs,rfl,h1,r1⟩:=Rep.cH ha;rw[<-r1.1] at P;exact⟨_,_,rfl,.inl ⟨xs,h1,rfl⟩,P _ F H (Up.refl s) .int⟩
 |.tup l,e=>
  cases e;obtain⟨b,xs,rfl,h1,r1⟩:=Rep.dh ha;rw[<-r1.1] at P;exact⟨_,_,rfl,.inr ⟨xs,h1,rfl⟩,P _ F H (Up.refl s) .int⟩
def Bv(p q:PV):Option (Res PV):=match q with
 |.ty T=>match isI p T with
  |some b=>some (.ok (.bl b))
  |none=>none
 |_=>none
theorem M4:R2B C (aH K) (aF K) (aF K) (aam K) Bv:=by
 intro F H x y a b res Q s ha hb e P
 match b,e with
 |.ty T,e=>
  cases Rep.YS hb;have e:(match isI a T with
   |some b=>some (Res.ok (PV.bl b))
   |none=>none)=some res:=e
  split at e
  ·rename_i k hk;cases e;exact⟨x,a,T,k,rfl,ha,hk,P _ F H (Up.refl s) .bl⟩
  ·cases e
def tu:List PV->Option (List Bool)
 |[]=>some []
 |.bl b::r=>(tu r).map (b::·)
 |_=>none
theorem Bw{F:Hp}:∀ {l:List PV}{bs:List Bool}{xs:List V},tu l=some bs->bR K F xs l->xs=bs.map V.bl
 |[],bs,xs,e,r=>by cases e;exact r.jD
 |.bl b::l,bs,xs,e,r=>by
  rw[tu] at e;cases h:tu l with
  |none=>rw[h] at e;cases e
  |some cs=>
   rw[h] at e;cases e;obtain⟨v,ys,rfl,r1,r2⟩:=r.dD;rw[Rep.iD r1,Bw h r2];rfl
def FQ(l:List PV):Option (Res PV):=match tu l with
 |some bs=>some (.ok (.bl (bs.all id)))
 |none=>none
theorem aan:R1M C (aV K) (aF K) (λxs H Q=>∃ (p:Addr) (bs:List Bool),xs=[.ref p]/\SqL K H p (bs.map V.bl)/\Q (.bl (bs.all id)) H) FQ:=by
 intro F H x a res Q s ha e P;unfold FQ at e;split at e
 ·rename_i bs hb;cases e;obtain⟨b,xs,rfl,h1,r1⟩:=ha;rw[Bw hb r1] at h1;exact⟨b,bs,rfl,h1,P _ F H (Up.refl s) .bl⟩
 ·cases e
def yD(l:List PV):Option (Res PV):=some (.ok (.lst l))
theorem Hn:R1O K C (aV K) (λxs H Q=>∃ p ys,xs=[.ref p]/\(SqL K H p ys\/SqT K H p ys)/\∀ l,H l=none->Q (.ref l) (upd H l (.lst ys))) yD:=by
 intro F H x a res Q s ha e P;cases e;obtain⟨b,xs,rfl,h1,r1⟩:=ha;exact⟨b,xs,rfl,.inl h1,λl hl=>P l F _ (Up.zW s hl) hl (s.free hl) ⟨_,aP,r1⟩⟩
def pG(f:Fn PV):Fn (List PV):=λZ=>bnd (f Z) zr
def lG(i:Nat):Fn (List PV):=λZ=>bnd (mVL i Z) zr
def O4:PV->Option (Res PV)
 |.int i=>some (.ok (.int (-i)))
 |_=>none
theorem T6{f:Fn PV}(ha:MJ K C (aF K) ta f):MJ K C (aF K) (tUn (rU λi=>.int (-i)) ta) (m1 O4 f):=by
 intro F H O Z Q r R e P;refine ha.run R e P λp v F1 H1 hk u a=>?_
 match p,hk with
 |.int i,hk=>
  cases Rep.bD a;cases hk;exact⟨i,rfl,P _ F1 H1 u .int⟩
end
noncomputable abbrev XR0:Hp->Value->Option Addr->PV->Prop:=λ_ _ _ _=>False
noncomputable abbrev C0(io:Addr->Prop)(H0 F0:Hp):Cg:=⟨⟨io,True,H0,F0,E0⟩,XR0⟩
def startR(ps:List PV)(k:Nat):Rho:=ps.map (λp=>some (.sh p))++List.replicate k none
def fin:Option Out->Option (Res PV)
 |some (.nx _)=>some (.ok .non)
 |some (.rt p)=>some (.ok p)
 |some (.ex z)=>some (.ex z)
 |_=>none
def pH:Option Out->Option (Res PV)
 |some (.ro p)=>some (.ok p)
 |some (.ex z)=>some (.ex z)
 |_=>none
section
variable{K:Frag}{XR:Hp->Value->Option Addr->PV->Prop}{N:List Str}{vs:List V}{H:Hp}{Q:VK}{E:XK}{t:TS}{b:Sn}{m:List PV->Option (Res PV)}
theorem Bx{E:XK}{F:Hp}{ps:List PV}{n:Nat}(s:aU F H)(r:bR K F vs ps)(hN:N.length=vs.length+n):RE K ⟨λ_=>False,True,H,F,E⟩ F H (start N vs) (startR ps n) where
 rb:=⟨s,λ_ _ h _=>h,λ_ _ h=>.inl h,λ_ h=>h.elim⟩
 len:=by unfold start startR;rw[ZaC,ZaC,Zab,Zab,ZbL,ZbL,r.1,hN];have:=r.1;lia
 sh:=λi p e=>by
  unfold startR at e;unfold start;by_cases hi:i<ps.length
  ·rw[Zak (by simpa using hi),Zad] at e
   rw[Zak (by rw[Zab,r.1];exact hi),Zad]
   cases h:ps[i]? with
   |none=>rw[h] at e;cases e
   |some q=>
    rw[h] at e;cases e;obtain⟨x,hx,rx⟩:=r.get h;exact⟨x,by rw[hx];rfl,rx⟩
  ·rw[Zas (by simpa using hi),Zbq] at e
   split at e<;>cases e
 ow:=λi p e=>by
  exfalso;unfold startR at e;by_cases hi:i<ps.length
  ·rw[Zak (by simpa using hi),Zad] at e
   cases h:ps[i]? with
   |none=>rw[h] at e;cases e
   |some q=>rw[h] at e;cases e
  ·rw[Zas (by simpa using hi),Zbq] at e
   split at e<;>cases e
 dd:=⟨_,RD.no λi p e=>by
  unfold startR at e;by_cases hi:i<ps.length
  ·rw[Zak (by simpa using hi),Zad] at e
   cases h:ps[i]? with
   |none=>rw[h] at e;cases e
   |some q=>rw[h] at e;cases e
  ·rw[Zas (by simpa using hi),Zbq] at e
   split at e<;>cases e⟩
 dis:=λi j p q a e=>by
  exfalso;unfold startR at e;by_cases hi:i<ps.length
  ·rw[Zak (by simpa using hi),Zad] at e
   cases h:ps[i]? with
   |none=>rw[h] at e;cases e
   |some q=>rw[h] at e;cases e
  ·rw[Zas (by simpa using hi),Zbq] at e
   split at e<;>cases e
theorem cY{k n:Nat}(hk:N.length=k+n)(hm:∀ ps r,m ps=some r->ps.length=k/\fin (b (startR ps n))=some r)(h:spM K XR0 m vs H Q E)(hS:∀ (io:Addr->Prop) (H0 F0:Hp),(∀ a,¬io a)->MS K (C0 io H0 F0) t b) :
  t { nx:=λ_ H'=>Q .non H',rt:=Q } (start N vs) H:=by
 obtain⟨ps,F,r,s,rp,e,P⟩:=h;obtain⟨hl,e⟩:=hm ps r e;have R:=Bx (E:=E0) (N:=N) (n:=n) s rp (by rw[rp.1,hl];exact hk)
 have up:∀ {F' H':Hp},aU F F'->RB ⟨λ_=>False,True,H,F,E0⟩ F' H'->Up F H F' H':=λs' rb=>⟨s',λc o q=>rb.keep c o q id,rb.new,rb.sub⟩;have M:=hS (λ_=>False) H F (λ_ h=>h);cases ho:b (startR ps n) with
 |none=>rw[ho] at e;cases e
 |some o=>
  rw[ho] at e;refine M F H _ _ _ o R ho ?_;cases o with
  |nx Z=>cases e;exact λF' H' O s' R'=>P .non F' H' (up s' R'.rb) .non
  |rt p=>cases e;exact λv F' H' s' rb rv=>P v F' H' (up s' rb) rv
  |ex z=>exact λ_ _ _ _ _ _ x=>x.elim
  |ro p=>cases e
  |rd p=>cases e
  |bk Z=>cases e
  |ct Z=>cases e
theorem ik{k n:Nat}(hk:N.length=k+n)(hm:∀ ps r,m ps=some r->ps.length=k/\pH (b (startR ps n))=some r)(h:spO K XR0 m vs H Q E)(hS:∀ (io:Addr->Prop) (H0 F0:Hp),(∀ a,¬io a)->MS K (C0 io H0 F0) t b) :
  t { nx:=λ_ H'=>Q .non H',rt:=Q } (start N vs) H:=by
 obtain⟨ps,F,r,s,rp,e,P⟩:=h;obtain⟨hl,e⟩:=hm ps r e;have R:=Bx (E:=E0) (N:=N) (n:=n) s rp (by rw[rp.1,hl];exact hk)
 have up:∀ {F' H':Hp},aU F F'->RB ⟨λ_=>False,True,H,F,E0⟩ F' H'->Up F H F' H':=λs' rb=>⟨s',λc o q=>rb.keep c o q id,rb.new,rb.sub⟩;have M:=hS (λ_=>False) H F (λ_ h=>h);cases ho:b (startR ps n) with
 |none=>rw[ho] at e;cases e
 |some o=>
  rw[ho] at e;refine M F H _ _ _ o R ho ?_;cases o with
  |ro p=>cases e;exact λa F' H' s' rb w n1 n2=>P a F' H' (up s' rb) n2 n1 w
  |ex z=>exact λ_ _ _ _ _ _ x=>x.elim
  |nx Z=>cases e
  |rt p=>cases e
  |rd p=>cases e
  |bk Z=>cases e
  |ct Z=>cases e
theorem cZ(h:spM K XR m vs H Q E){k:Nat}(hm:∀ ps r,m ps=some r->ps.length=k):vs.length=k:=by
 obtain⟨ps,F,r,s,rp,e,P⟩:=h;rw[rp.1];exact hm ps r e
theorem ir(h:spO K XR m vs H Q E){k:Nat}(hm:∀ ps r,m ps=some r->ps.length=k):vs.length=k:=by
 obtain⟨ps,F,r,s,rp,e,P⟩:=h;rw[rp.1];exact hm ps r e
end
section
variable{X:Cx}{k:Nat}{N:List Str}{scope:Scope}{cl:List (Str×Addr)}{C:Addr}{s2:Shared}{H2:Hp}{fp:List Addr}
theorem iu:IxR (X.comp N scope cl C s2 H2 fp) (rIx X.K):=aX
theorem JL:OpR (X.comp N scope cl C s2 H2 fp) (binaryOp .Add) (Tw X.K):=cP
theorem Wu(hr:gr k X.A):OpR (X.comp N scope cl C s2 H2 fp) (compareOp .Eq) (Y0 X.K):=iI hr
theorem By(hr:gr k X.A):OpR (X.comp N scope cl C s2 H2 fp) (compareOp .NotIn) (Hj X.K):=yz hr
end
def aao(j:Nat):Option Out->Option (Res PV)
 |some (.nx Z)=>match ownAt j Z with
  |some p=>some (.ok p)
  |none=>none
 |_=>none
section
variable{K:Frag}{C:Cg}{N:List Str}{vs:List V}
theorem kI{i:Nat}{x:V}(h:vs[i]?=some x):(start N vs)[i]?=some (some x):=by
 unfold start;rw[Zak (by rw[Zab];exact cL h),Zad,h]
 rfl
def BJ:Sn:=λ_=>none
theorem BK:MS K C R4 BJ:=λ_ _ _ _ _ _ _ e _=>nomatch e
end
theorem BL:∀ {ns:List Int}{us:List Value},Vals (ns.map V.int) us->IntsAre us ns
 |[],us,r=>by rw[Zcw] at r;cases r;exact .nil
 |n::ns,us,r=>by
  rw[Zap] at r;cases r with
  |cons r1 r2=>
   obtain⟨t,e⟩:=r1;subst e;exact .cons n t (BL r2)
def iM:List PV->Option (List Int)
 |[]=>some []
 |.int n::l=>(iM l).map (n::·)
 |_=>none
theorem FT{K:Frag}{F:Hp}:∀ {l:List PV}{ns:List Int}{xs:List V},iM l=some ns->bR K F xs l->xs=ns.map V.int
 |[],ns,xs,h,r=>by
  cases h;exact List.length_eq_zero_iff.mp (by simpa using r.1)
 |.int n::l,ns,xs,h,r=>by
  cases hl:iM l with
  |none=>simp only[iM,hl] at h;cases h
  |some ms=>
   simp only[iM,hl] at h;cases h;obtain⟨v,ys,rfl,r1,r2⟩:=r.dD;cases Rep.bD r1;rw[FT hl r2];rfl
section
def uy:Fn PV:=λ_=>some (.ok (.dk []))
end
theorem BP:typeLookup (.type "list") "keys"=pure none:=am_miss_of_fast (by decide +kernel)
theorem zY:typeLookup (.type "tuple") "keys"=pure none:=am_miss_of_fast (by decide +kernel)
theorem jG:entryFor table "dict.update.loop"=some Builtin.«dict.update.loop»:=entryFor_of_tree (by kernel_rfl)
theorem cQ:plainId "dict.update.loop"=true:=by decide +kernel
section
variable{prog:Program}{w:World}{A:Around}{E:Value->Shared->Prop}{s:Shared}{a:Addr}{o:Obj}{xs:Array Value}{k:Nat}{name:Str}{Q:Option Value->Shared->Prop}
theorem vm(hx:s.heap.get? a=some o)(hc:o.cls=.type "list")(hdat:o.data=.seq xs k)(hd:o.dict=none)(hmiss:typeLookup (.type "list") name=pure none)(hname:(["__module__","__name__","__qualname__","__doc__","__annotations__"]:List Str).contains name=false)(hA:A.handled=none)
  (h:∀ h' tk,(∀ b ob,s.heap.get? b=some ob->h'.get? b=some ob)->Q none { s with heap:=h',toks:=tk })(hsz:name.length+100<=sizeLine:=by size_fits) :
  wpAny (model prog w) A (getAttr? (.ref a) name) Q E s:=by
 obtain⟨c,dct,dat,sl⟩:=o;simp only at hc hdat hd;subst hc hdat hd;obtain⟨hp,g,d,tk,os⟩:=s;have hT:∀ tk',(⟨hp,g,d,tk',os⟩:Shared).TypeIs (.ref a) "list":=λ_=>⟨_,hx,rfl⟩;have f1:=sub_AttributeError;have f3:=Zco.lookup;have f4:=Zco.bind (.ref a);have f5:=am_list_getattr_none;unfold getAttr? getAttrBy? getAttrBy;repeat (any_goals (first|assumption|exact hT _|((with_reducible show wpAny _ _ (call (Value.builtin "list.__getattribute__") _ _) _ _ _);refine call_meets Zco (hT _) am_entry_list_getattribute (F.args_list_getattribute_2 _ _) (meets_getattribute_miss_list a xs k sl name _ hmiss hname hsz) ⟨hx,hA,λh' tk' e hx'=>?_⟩)|wp_step))
 obtain⟨t',u',he⟩:=hx'.there;show wpAny _ _ (getattributeRaised _ _ _ _ _ _ _) _ _ _
 unfold getattributeRaised;repeat (any_goals (first|assumption|wp_step))
 exact h _ _ hx'.keeps
theorem uh(hx:s.heap.get? a=some o)(hc:o.cls=.type "tuple")(hdat:o.data=.seq xs k)(hd:o.dict=none)(hmiss:typeLookup (.type "tuple") name=pure none)(hname:(["__module__","__name__","__qualname__","__doc__","__annotations__"]:List Str).contains name=false)(hA:A.handled=none)
  (h:∀ h' tk,(∀ b ob,s.heap.get? b=some ob->h'.get? b=some ob)->Q none { s with heap:=h',toks:=tk })(hsz:name.length+100<=sizeLine:=by size_fits) :
  wpAny (model prog w) A (getAttr? (.ref a) name) Q E s:=by
 obtain⟨c,dct,dat,sl⟩:=o;simp only at hc hdat hd;subst hc hdat hd;obtain⟨hp,g,d,tk,os⟩:=s;have hT:∀ tk',(⟨hp,g,d,tk',os⟩:Shared).TypeIs (.ref a) "tuple":=λ_=>⟨_,hx,rfl⟩;have f1:=sub_AttributeError;have f3:=Zcg.lookup;have f4:=Zcg.bind (.ref a);have f5:=am_tuple_getattr_none;unfold getAttr? getAttrBy? getAttrBy;repeat (any_goals (first|assumption|exact hT _|((with_reducible show wpAny _ _ (call (Value.builtin "tuple.__getattribute__") _ _) _ _ _);refine call_meets Zcg (hT _) am_entry_tuple_getattribute (F.args_tuple_getattribute_2 _ _) (meets_getattribute_miss_tuple a xs k sl name _ hmiss hname hsz) ⟨hx,hA,λh' tk' e hx'=>?_⟩)|wp_step))
 obtain⟨t',u',he⟩:=hx'.there;show wpAny _ _ (getattributeRaised _ _ _ _ _ _ _) _ _ _
 unfold getattributeRaised;repeat (any_goals (first|assumption|wp_step))
 exact h _ _ hx'.keeps
end
section
variable{X:Cx}{pins:List (Addr×Obj)}{O:St}{H H':Hp}{s:Shared}{d:Addr}{y v:V}{u r:Value}{A:Around}{E:Value->Shared->Prop}
theorem Rc{Q:Unit->Shared->Prop}(hu:A.units<cLine)(I:Inv X pins O H s)(g:wD H d y v H')(ry:RelV y u)(rv:RelV v r)(h:∀ h' tk,Heap.SameBut d s.heap h'->Inv X pins O H' { s with heap:=h',toks:=tk }->Q () { s with heap:=h',toks:=tk }) :
  wpAny (model X.prog X.w) A (dictSet d u r) Q E s:=by
 rcases g with⟨kvs,k,e,ey,l,eH⟩|⟨kvs,k,b,e,ey,eb,l,eH⟩
 ·subst ey eH;obtain⟨z,hd,vs,rel,dd⟩:=Xy I.hok e;have hz:vs.length<=sizeLine:=by rw[<-rel.length];exact z
  have hl:(putK kvs k v).length<=sizeLine:=by have:=j9 kvs k v;omega
  refine wpAny_dictSet_pairs (hsz:=hz) (zp ry) dd λh' dd' hs=>h h' _ hs ?_;have he:∃ q,h'.get? d=some q:=let⟨q,_,_,hq,_⟩:=dd';⟨q,hq⟩;exact wF I (by rw[e];exact True.intro) hs he (S6 hl hd (rel.put k rv) dd')
 ·subst ey eH;cases (show u=Value.ref b from ry);obtain⟨z,hd,xs,rel,dd⟩:=S5 I.hok e;have hz:xs.length<=sizeLine:=by rw[<-ZcC rel];exact z
  have hl:(putK kvs k v).length<=sizeLine:=by have:=j9 kvs k v;omega
  refine wpAny_dictSet_heap (hsz:=hz) (show(tupleKind (bV X.prog X.w)).room A from hu) (qe I.hok eb) dd λh' dd' hs=>h h' _ hs ?_;obtain⟨q,es,ep,hq,h2,h3,h4,_,h5⟩:=dd';refine wF I (by rw[e];exact True.intro) hs ⟨q,hq⟩ ⟨hl,hd,_,(rel.put k eb rv).keeps λc ys ec=>?_,q,es,ep,hq,h2,h3,h4,h5⟩
  rw[aL (RZ ec e (λz=>nomatch z))];exact ec
theorem wD.other(g:wD H d y v H'){b:Addr}(hb:b≠d):H' b=H b:=by
 rcases g with⟨kvs,k,e,ey,l,rfl⟩|⟨kvs,k,b',e,ey,eb,l,rfl⟩
 ·exact aL hb
 ·exact aL hb
def FW(d:Addr):List (V×V)->Hp->(Hp->Prop)->Prop
 |[],H,Q=>Q H
 |(y,v)::r,H,Q=>∃ H',wD H d y v H'/\FW d r H' Q
def Hd(K:Frag)(H:Hp)(ys:List V)(ps:List (V×V)):Prop:=ys.length=ps.length/\∀ (j:Nat) x p,ys[j]?=some x->ps[j]?=some p->∃ T,x=.ref T/\SqT K H T [p.1,p.2]
theorem SqT.but{K:Frag}{T:Addr}{xs:List V}(h:SqT K H T xs)(hb:∀ b,b≠d->H' b=H b)(hn:T≠d):SqT K H' T xs:=by
 rcases h with(h|⟨o,h⟩)|h
 ·exact .inl (.inl (by rw[hb T hn];exact h))
 ·exact .inl (.inr ⟨o,by rw[hb T hn];exact h⟩)
 ·exact .inr h
theorem T7{it:Addr}{fp:List Addr}{n:Nat}{P:Nat->Value->Prop}{St:Nat->Heap->Prop}{ps:List (V×V)}{R:Result->Shared->Prop}{H0:Hp}(hc:X.calm=true)(W:Walks X.prog X.w A.in1 it fp [it] n P St)(hu:A.in1.units<cLine)
  (hn:ps.length=n)(hd:d ∉ fp)(hit:∀ H,H d≠none->(∀ b,b≠d->H b=H0 b)->Az X pins H it)
  (hp:∀ (i:Nat) v p,P i v->ps[i]?=some p->∃ T,v=.ref T/\T≠d/\SqT X.K H0 T [p.1,p.2]) :
  ∀ (k i:Nat) (s:Shared) (H:Hp),n-i=k->i<=n->St i s.heap->Inv X pins O H s->H d≠none->(∀ b,b≠d->H b=H0 b)->∀ tk,FW d (ps.drop i) H (λH'=>∀ s',Inv X pins O H' s'->R (.ok (.ret .none)) s') ->
   codeAny (model X.prog X.w) A (.builtin "dict.update.loop" ⟨[.ref d,.ref it,.int i tk,.none],[]⟩) R s:=by
 intro k;induction k with
 |zero=>
  intro i s H hk hi hst I hHd hb tk hR;have hin:i=n:=by omega
  subst hin;refine codeAny_builtin jG ?_;rw[Around.under_plainId cQ _];show wpAny _ A.in1 (pyNext (.ref it)>>=_) _ _ s
  refine Zaa (W.done s _ _ hst λh' tk' hk'=>?_);show wpAny _ _ (Builtin.Dict.addKeywords d []>>=_) _ _ _
  rw[List.drop_of_length_le (by omega)] at hR
  exact Zaa (Zaj (Zaj (hR _ (I.sY hk' λb hb'=>by rw[Zbf.mp hb'];exact hit H hHd hb))))
 |succ k ih=>
  intro i s H hk hi hst I hHd hb tk hR;have hlt:i<n:=by omega
  have hlp:i<ps.length:=by omega
  have hdr:ps.drop i=ps[i]::ps.drop (i+1):=ZbQ hlp;rw[hdr] at hR;refine codeAny_builtin jG ?_;rw[Around.under_plainId cQ _];show wpAny _ A.in1 (pyNext (.ref it)>>=_) _ _ s
  refine Zaa (W.item i s _ _ hlt hst λv h' tk' hP hst' hk'=>?_);obtain⟨T,rfl,hT,hq⟩:=hp i v ps[i] hP (by simp[hlp])
  have I1:Inv X pins O H { s with heap:=h',toks:=tk' }:=I.sY hk' λb hb'=>by rw[Zbf.mp hb'];exact hit H hHd hb
  obtain⟨its,rv,ht,_⟩:=I1.tuple (SqT.but hq hb hT);obtain⟨u1,u2,rfl,r1,r2⟩:∃ u1 u2,its=[u1,u2]/\RelV ps[i].1 u1/\RelV ps[i].2 u2:=by
   cases rv with
   |cons a t=>cases t with
    |cons b t=>cases t;exact⟨_,_,rfl,a,b⟩
  obtain⟨H',g,hR⟩:=hR;refine Zaa (wpAny_holding (Zaa (wpAny_tryCatch ?_)));unfold Builtin.Dict.pairItems;refine Zaa (wpAny_typeOf ht.typeIs ?_);rw[Zan (by decide)]
  obtain⟨o,h1,_,m,h2⟩:=ht;refine Zaa (wpAny_seqItems h1 h2 (Zaj ?_));show wpAny _ A.in1 (holding [u1,u2] (dictSet d u1 u2)) _ _ _
  refine wpAny_holding (Rc hu I1 g r1 r2 λh2' tk2 hs2 I2=>?_);refine Zaj ⟨plainId_quiet cQ _,?_⟩;have:=ih (i+1) { s with heap:=h2',toks:=tk2 } H' (by omega) hlt (W.frame _ _ _ hst' λb hb' o e=>(hs2.2 b λz=>hd (by rw[<-z];exact hb')).trans e) I2
   (by rcases g with⟨_,_,_,_,_,rfl⟩|⟨_,_,_,_,_,_,_,rfl⟩<;>rw[aP]<;>simp) (λb hb'=>(wD.other g hb').trans (hb b hb')) 0 hR
  exact this
end
theorem JM:∀ {xs:List V}{us:List Value}{i:Nat}{u:Value},Vals xs us->us[i]?=some u->∃ x,xs[i]?=some x/\RelV x u
 |[],_,i,u,r,h=>by cases r;simp at h
 |x::xs,_,i,u,r,h=>by
  cases r with
  |cons a t=>
   cases i with
   |zero=>simp at h;subst h;exact⟨x,rfl,a⟩
   |succ i=>obtain⟨y,h1,h2⟩:=JM (i:=i) t (by simpa using h);exact⟨y,by simpa using h1,h2⟩
def Ho(K:Frag)(n:HO):List V->Hp->VK->Prop:=λxs H Q=>∃ p ys ps,xs=[.ref p]/\(SqL K H p ys\/H p=some (.tup ys))/\Hd K H ys ps/\∀ d,H d=none->FW d ps (upd H d n) λH'=>Q (.ref d) H'
section
variable{X:Cx}
theorem BR{n:HO}(hc:X.calm=true)(hu:X.A.units+64<cLine)(hn:n=.dK []\/n=.dT []):mW X (.type "dict") (Ho X.K n):=by
 intro pins s O H xs us Q I rv h;obtain⟨p,ys,ps,rfl,hq,hps,q⟩:=h;obtain⟨u,rfl,ru⟩:=rv.one;cases ru;have hh:X.A.handled=none:=I.ok.hd hc;refine callType_codes (Q₁:=λobj s₁=>obj=.ref s.heap.objs.size/\s₁={ s with heap:=s.heap.push { cls:=.type "dict",data:=.dict #[] } }) F.kt_called_dict (F.kt_typeCall_dict_1 _) F.entry_dict_init (kt_code_dict_new _ ⟨rfl,rfl⟩) ?_;rintro obj s₁ ⟨rfl,rfl⟩;have ok:dB X.prog X.w (upd H s.heap.objs.size n) (s.heap.push { cls:=.type "dict",data:=.dict #[] }) s.heap.objs.size n:=by
  rcases hn with rfl|rfl
  ·exact Jv s.heap I.big
  ·exact Jw s.heap I.big
 have hfree:H s.heap.objs.size=none:=I.hok.fresh (Zal _);have I1:Inv X pins O (upd H s.heap.objs.size n) { s with heap:=s.heap.push { cls:=.type "dict",data:=.dict #[] } }:=I.laid (a:=s.heap.objs.size) (o:=n) (t':=s.toks) (λ_ _ q=>Zai _ q) (Zal _) ok;have q:=q _ hfree;have hd1:(s.heap.push { cls:=.type "dict",data:=.dict #[] }).get? s.heap.objs.size=some { cls:=.type "dict",data:=.dict #[] }:=Zar _ rfl;have tyD:({ s with heap:=s.heap.push { cls:=.type "dict",data:=.dict #[] } }:Shared).TypeIs (.ref s.heap.objs.size) "dict":=⟨_,hd1,rfl⟩;refine⟨tyD,F.args_dict_init_2 _ _,?_⟩;unfold Builtin.«dict.__init__»;refine Zaa ?_;unfold Builtin.Dict.selfAndRest;refine Zaa (wpAny_notOrdered_dict tyD ?_);show wpAny _ _ (pure (s.heap.objs.size,[Value.ref p])) _ _ _
 refine Zaj ?_;show wpAny _ _ (Builtin.Dict.updateFrom "dict.__init__" s.heap.objs.size (.ref p) [] .none) _ _ _
 unfold Builtin.Dict.updateFrom;have same:aU H (upd H s.heap.objs.size n):=fj hfree;have hnd:∀ (j:Nat) x pr,ys[j]?=some x->ps[j]?=some pr->∃ T,x=.ref T/\T≠s.heap.objs.size/\SqT X.K (upd H s.heap.objs.size n) T [pr.1,pr.2]:=λj x pr e1 e2=>by
  obtain⟨T,rfl,hT⟩:=hps.2 j x pr e1 e2;obtain⟨its,_,ht,_⟩:=I.tuple hT;exact⟨T,rfl,ZaE ht.lt,same.tup hT⟩
 have fin:∀ (h2:Heap) (tk:Nat) (o:Obj) (St:Nat->Heap->Prop) (its:List Value),(∀ b ob,(s.heap.push { cls:=.type "dict",data:=.dict #[] }).get? b=some ob->h2.get? b=some ob)->Vals ys its ->
   Walks X.prog X.w X.A.in1.in1 h2.objs.size [h2.objs.size,p] [h2.objs.size] its.toArray.size (λi v=>its.toArray[i]?=some v) St->St 0 (h2.push o)->p≠s.heap.objs.size->(∀ b,o.cls≠.ref b) ->
   codeAny (model X.prog X.w) X.A.in1 (.builtin "dict.update.loop" ⟨[.ref s.heap.objs.size,.ref h2.objs.size,.int (0:Nat) 0,.none],[]⟩) (wants (λr s₂=>r=.none/\EP X pins O Q (.ref s.heap.objs.size) s₂) X.xe) { s with heap:=h2.push o,toks:=tk }:=by
  intro h2 tk o St its hk rv W h0 hp _;have I2:Inv X pins O (upd H s.heap.objs.size n) { s with heap:=h2,toks:=tk }:=I1.kept hk;have I3:Inv X pins O (upd H s.heap.objs.size n) { s with heap:=h2.push o,toks:=tk }:=I2.kept (t':=tk) λb ob e=>Zai _ e;have lt1:s.heap.objs.size<h2.objs.size:=Zat (hk _ _ hd1);have hn2:upd H s.heap.objs.size n h2.objs.size=none:=I2.hok.fresh (Zal _);refine T7 (A:=X.A.in1) (ps:=ps) (H0:=upd H s.heap.objs.size n) hc W (show X.A.units+2<cLine by lia) ?_ ?_ (λHx hx1 hx2=>?_) (λi v pr hv hpr=>?_) _ 0 _ _ rfl (Za7 _) h0 I3 (by rw[aP];simp) (λ_ _=>rfl) 0 ?_
  ·rw[List.size_toArray,<-rv.length];exact hps.1.symm
  ·intro z;rcases ZaA.mp z with z|z
   ·exact absurd z (ZaE lt1)
   ·exact absurd (Zbf.mp z).symm hp
  ·exact I2.Ej (Zal _) (by rw[hx2 _ (Zb5 lt1)];exact hn2)
  ·rw[Zbg] at hv;obtain⟨y,hy,ry⟩:=JM rv hv;obtain⟨T,rfl,h1,h2⟩:=hnd i y pr hy hpr;cases ry;exact⟨T,rfl,h1,h2⟩
  ·rw[ZcN];have mono:∀ (ps:List (V×V)) (Hx:Hp) (P1 P2:Hp->Prop),(∀ H,P1 H->P2 H)->FW s.heap.objs.size ps Hx P1->FW s.heap.objs.size ps Hx P2:=by
    intro ps;induction ps with
    |nil=>exact λHx P1 P2 hP h=>hP _ h
    |cons a r ih=>exact λHx P1 P2 hP ⟨H',g,h⟩=>⟨H',g,ih _ _ _ hP h⟩
   exact mono _ _ _ _ (λHx hQ s' Is=>⟨rfl,.ref _,Hx,Is,rfl,hQ⟩) q
 rcases hq with hq|hq
 ·obtain⟨its,rv,pl,hz⟩:=I1.list (same.seq hq);have hp:p≠s.heap.objs.size:=λz=>by
   obtain⟨o,m,e,c,_⟩:=pl;rw[z,hd1] at e;cases e;exact absurd (show Value.type "dict"=Value.type "list" from c) (by decide)
  obtain⟨o,m,e,c,dn,dt⟩:=id pl;refine Zaa (wpAny_typeOf (show Shared.TypeIs _ (.ref p) "list" from⟨_,e,c⟩) ?_);rw[Zan (by decide)]
  refine Zaa (vm e c dt dn BP (by decide +kernel) hh λh2 tk hk=>?_)
  rw[Zan (show(none:Option Value).isNone=true from rfl)];refine Zaa (wpAny_rule (Zaa (wpAny_pyIter_list ((pl.keeps hk).isList) ?_)));refine Zaj ⟨plainId_quiet cQ _,fin h2 tk _ _ its hk rv (Walks.list (A:=X.A.in1.in1) hh _ p (ZaE (pl.keeps hk).lt) its.toArray) ⟨⟨_,Zar _ rfl,rfl,rfl⟩,(pl.keeps λb ob eb=>Zai _ (hk b ob eb)).isList⟩ hp (λb z=>nomatch z)⟩
 ·obtain⟨_,its,rv,tn⟩:=(show dB X.prog X.w _ _ p (.tup ys) from I1.hok p _ (same _ _ hq));have hp:p≠s.heap.objs.size:=λz=>by
   obtain⟨⟨o,e,c,_⟩,_⟩:=tn;rw[z,hd1] at e;cases e;exact absurd (show Value.type "dict"=Value.type "tuple" from c) (by decide)
  obtain⟨⟨o,e,c,m,dt⟩,dn⟩:=id tn;refine Zaa (wpAny_typeOf (show Shared.TypeIs _ (.ref p) "tuple" from⟨_,e,c⟩) ?_);rw[Zan (by decide)]
  refine Zaa (uh e c dt (dn o e) zY (by decide +kernel) hh λh2 tk hk=>?_)
  rw[Zan (show(none:Option Value).isNone=true from rfl)];have tp:({ s with heap:=h2,toks:=tk }:Shared).heap.IsTuple p its.toArray:=⟨o,hk _ _ e,c,m,dt⟩;refine Zaa (wpAny_rule (Zaa (wpAny_pyIter_tuple tp ?_)));refine Zaj ⟨plainId_quiet cQ _,fin h2 tk _ _ its hk rv (Walks.tuple (A:=X.A.in1.in1) hh _ p (ZaE (Zat (hk _ _ e))) its.toArray) ⟨⟨_,Zar _ rfl,rfl,rfl⟩,⟨o,Zai _ (hk _ _ e),c,m,dt⟩⟩ hp (λb z=>nomatch z)⟩
end
section
variable{κ:Type}[DecidableEq κ]
def cI:List (κ×PV)->κ->Option PV
 |[],_=>none
 |(a,p)::l,k=>if a=k then some p else cI l k
def iQ:List (κ×PV)->κ->PV->List (κ×PV)
 |[],k,p=>[(k,p)]
 |(a,q)::l,k,p=>if a=k then(a,p)::(if(l.any λe=>decide (e.1=k))=true then iQ l k p else l) else(a,q)::iQ l k p
inductive jo(K:Frag)(F:Hp):List (κ×V)->List (κ×PV)->Prop
 |nil:jo K F [] []
 |cons {k:κ}{v:V}{p:PV}{xs:List (κ×V)}{l:List (κ×PV)} (h:Rep K F v p) (t:jo K F xs l):jo K F ((k,v)::xs) ((k,p)::l)
variable{K:Frag}{F:Hp}{xs:List (κ×V)}{l:List (κ×PV)}{k:κ}
theorem jo.of:∀ {xs:List (κ×V)}{l:List (κ×PV)},xs.map (·.1)=l.map (·.1)->(∀ (j:Nat) x p,xs[j]?=some x->l[j]?=some p->Rep K F x.2 p.2)->jo K F xs l
 |[],[],_,_=>.nil
 |[],_::_,h,_=>by simp at h
 |_::_,[],h,_=>by simp at h
 |(a,v)::xs,(b,p)::l,h,hr=>by
  simp only[Zap,ZbG] at h;obtain⟨h1,h2⟩:=h;have h1:a=b:=h1;subst h1;exact .cons (hr 0 _ _ rfl rfl) (jo.of h2 λj x p e1 e2=>hr (j+1) x p (by simpa using e1) (by simpa using e2))
theorem jo.keys(h:jo K F xs l):xs.map (·.1)=l.map (·.1):=by
 induction h with
 |nil=>rfl
 |cons h t ih=>simp[ih]
theorem jo.len(h:jo K F xs l):xs.length=l.length:=by
 have:=Za3 List.length h.keys;simpa using this
theorem jo.at(h:jo K F xs l):∀ (j:Nat) x p,xs[j]?=some x->l[j]?=some p->Rep K F x.2 p.2:=by
 induction h with
 |nil=>intro j x p e;simp at e
 |cons h t ih=>
  intro j x p e1 e2;cases j with
  |zero=>simp at e1 e2;subst e1 e2;exact h
  |succ j=>exact ih j x p (by simpa using e1) (by simpa using e2)
theorem jo.none(h:jo K F xs l)(e:cI l k=none):lz xs k=none:=by
 induction h with
 |nil=>rfl
 |@cons a v p xs l h t ih=>
  unfold cI at e;split at e
  ·cases e
  ·rename_i hk;rw[mY hk];exact ih e
theorem jo.some{p:PV}(h:jo K F xs l)(e:cI l k=some p):∃ v,lz xs k=some v/\Rep K F v p:=by
 induction h with
 |nil=>cases e
 |@cons a v q xs l h t ih=>
  unfold cI at e;split at e
  ·rename_i hk;cases e;exact⟨v,q9 hk,h⟩
  ·rename_i hk;obtain⟨w,h1,h2⟩:=ih e;exact⟨w,by rw[mY hk];exact h1,h2⟩
theorem jo.any(h:jo K F xs l):(xs.any λe=>decide (e.1=k))=l.any λe=>decide (e.1=k):=by
 induction h with
 |nil=>rfl
 |cons h t ih=>simp only[Zb8,ih]
theorem jo.repl{v:V}{p:PV}(h:jo K F xs l)(r:Rep K F v p):(l.any λe=>decide (e.1=k))=true->jo K F (xs.map λkv=>if kv.1=k then(kv.1,v) else kv) (iQ l k p):=by
 induction h with
 |nil=>intro z;cases z
 |@cons a w q xs l h t ih=>
  intro z;unfold iQ;rw[Zap];by_cases hk:a=k
  ·rw[Zan hk,Zan hk];refine .cons r ?_;by_cases hl:(l.any λe=>decide (e.1=k))=true
   ·rw[Zan hl];exact ih hl
   ·rw[Zam hl];have hx:∀ e∈xs,¬e.1=k:=λe he z=>hl (by rw[<-t.any];exact ZcZ.mpr ⟨e,he,by simpa using z⟩)
    rw[show xs.map (λkv=>if kv.1=k then(kv.1,v) else kv)=xs from by
     conv=>rhs;rw[<-List.map_id xs]
     exact Za6 λe he=>by rw[Zam (hx e he)];rfl]
    exact t
  ·rw[Zam hk,Zam hk];refine .cons h (ih ?_);rw[Zb8] at z;simpa[hk] using z
theorem jo.snoc{v:V}{p:PV}(h:jo K F xs l)(r:Rep K F v p):(l.any λe=>decide (e.1=k))=false->jo K F (xs++[(k,v)]) (iQ l k p):=by
 induction h with
 |nil=>intro _;exact .cons r .nil
 |@cons a w q xs l h t ih=>
  intro z;rw[Zb8,Bool.or_eq_false_iff] at z;have hk:¬a=k:=by simpa using z.1
  unfold iQ;rw[Zam hk];exact .cons h (ih z.2)
theorem jo.put{v:V}{p:PV}(h:jo K F xs l)(r:Rep K F v p):jo K F (putK xs k v) (iQ l k p):=by
 unfold putK;by_cases z:(xs.any λe=>decide (e.1=k))=true
 ·rw[Zan z];exact h.repl r (by rw[<-h.any];exact z)
 ·rw[Zam z];exact h.snoc r (by rw[<-h.any];exact Bool.not_eq_true _▸z)
end
def BV:PV->Option Key
 |.int i=>some (.inl i)
 |.str x=>some (.inr x)
 |_=>none
def gF:List PV->Option (List Key)
 |[]=>some []
 |p::l=>match BV p,gF l with
  |some k,some ks=>some (k::ks)
  |_,_=>none
def JN:Key->PV
 |.inl i=>.int i
 |.inr x=>.str x
theorem BW{K:Frag}{F:Hp}{p:PV}{k:Key}{v:V}(h:BV p=some k)(r:Rep K F v p):v=kV k:=by
 cases p with
 |int i=>cases h;cases Rep.bD r;rfl
 |str x=>cases h;cases Rep.cG r;rfl
 |_=>cases h
theorem tD{K:Frag}{F:Hp}:∀ {l:List PV}{ks:List Key}{xs:List V},gF l=some ks->bR K F xs l->xs=ks.map kV
 |[],ks,xs,h,r=>by cases h;exact r.jD
 |p::l,ks,xs,h,r=>by
  unfold gF at h;split at h
  ·rename_i k ks' h1 h2;cases h;obtain⟨v,ys,rfl,r1,r2⟩:=r.dD;rw[BW h1 r1,tD h2 r2];rfl
  ·cases h
def PV.isD:PV->Bool
 |.dk _=>true
 |.dt _=>true
 |_=>false
def DLk(K:Frag)(F H:Hp)(a:Addr):PV->Prop
 |.dk l=>∃ xs,Rd H a (.dK xs)/\xs.map (·.1)=l.map (·.1)/\∀ (j:Nat) x p,xs[j]?=some x->l[j]?=some p->Rep K F x.2 p.2
 |.dt l=>∃ xs,Rd H a (.dT xs)/\xs.map (·.1)=l.map (·.1)/\∀ (j:Nat) x p,xs[j]?=some x->l[j]?=some p->Rep K F x.2 p.2
 |_=>False
theorem DLk.up{K:Frag}{F H F' H':Hp}{a:Addr}{p:PV}(o:DLk K F H a p)(sf:aU F F')(sh:aU H H'):DLk K F' H' a p:=by
 cases p with
 |dk l=>obtain⟨xs,e,r,q⟩:=o;exact⟨xs,e.same sh,r,λj x p a b=>(q j x p a b).up sf⟩
 |dt l=>obtain⟨xs,e,r,q⟩:=o;exact⟨xs,e.same sh,r,λj x p a b=>(q j x p a b).up sf⟩
 |_=>exact o.elim
theorem Own.look{K:Frag}{F H:Hp}{a:Addr}{p:PV}(o:Own K F H a p)(d:p.isD=true):DLk K F H a p:=by
 cases p with
 |dk l=>obtain⟨xs,e,r⟩:=o;exact⟨xs,.inl e,r⟩
 |dt l=>obtain⟨xs,e,r⟩:=o;exact⟨xs,.inl e,r⟩
 |_=>cases d
def aD(K:Frag):Rel PV:=λF H v p=>p.isD=true/\∃ a,v=.ref a/\DLk K F H a p
theorem aD.up{K:Frag}:UpM (aD K):=λ_ _ _ _ _ _ u ⟨h1,b,e,o⟩=>⟨h1,b,e,o.up u.ff u.hh⟩
def asD(p:PV):Option (Res PV):=if p.isD=true then some (.ok p) else none
theorem Rep.own{K:Frag}{F H:Hp}{v:V}{p:PV}(r:Rep K F v p)(s:aU F H)(d:p.isD=true):∃ a,v=.ref a/\DLk K F H a p:=by
 cases r with
 |dk h hl hr=>exact⟨_,rfl,_,h.same s,hl,hr⟩
 |dt h hl hr=>exact⟨_,rfl,_,h.same s,hl,hr⟩
 |_=>cases d
section
variable{K:Frag}{C:Cg}{ta tb tc te:TE}{f g h:Fn PV}
def BX(f:Fn PV):Fn PV:=λZ=>bnd (f Z) asD
def cg(i:Nat):Fn PV:=λZ=>bnd (mVL i Z) asD
theorem JP(h:MJ K C (aF K) ta f):MJ K C (aD K) ta (BX f):=by
 intro F H O Z Q r R e P;refine h.run R e P λp v F1 H1 hk u a=>?_;unfold asD at hk;split at hk
 ·rename_i hd;cases hk;exact P v F1 H1 u ⟨hd,Rep.own a u.fh hd⟩
 ·cases hk
theorem bM(i:Nat):MJ K C (aD K) (mj i) (cg i):=by
 intro F H O Z Q r R e P;unfold cg at e;rcases bW e with⟨z,e1,rfl⟩|⟨p,e1,hk⟩
 ·unfold mVL at e1;split at e1<;>cases e1
 ·unfold asD at hk;split at hk
  case isFalse=>cases hk
  rename_i hd;cases hk;unfold mVL at e1;split at e1
  ·rename_i q hq;cases e1;obtain⟨v,e2,e3⟩:=R.sh i _ hq;exact⟨v,e2,P v F H (Up.refl R.rb.sub) ⟨hd,Rep.own e3 R.rb.sub hd⟩⟩
  ·rename_i q hq;cases e1;obtain⟨a,e2,e3,_⟩:=R.ow i _ hq;exact⟨_,e2,P _ F H (Up.refl R.rb.sub) ⟨hd,a,rfl,e3.look hd⟩⟩
  ·cases e1
def eE:PV->PV->Option (Option PV)
 |.dk l,k=>(BV k).map (cI l)
 |.dt l,.tup ks=>(gF ks).map (cI l)
 |_,_=>none
theorem rG{F H:Hp}{a:Addr}{d k:PV}{y:V}{r:Option PV}(s:aU F H)(o:DLk K F H a d)(ry:Rep K F y k)(e:eE d k=some r) :
  ∃ o,uf H a y o/\(r=none->o=none)/\∀ p,r=some p->∃ v,o=some v/\Rep K F v p:=by
 have inv:(∃ l,d=.dk l)\/∃ l ks,d=.dt l/\k=.tup ks:=by
  clear o ry
  cases d<;>first|exact noS e|exact .inl ⟨_,rfl⟩|(cases k<;>first|exact noS e|exact .inr ⟨_,_,rfl,rfl⟩)
 rcases inv with⟨l,rfl⟩|⟨l,ks,rfl,rfl⟩
 ·obtain⟨xs,h1,h2,h3⟩:=o;have D:=jo.of (K:=K) (F:=F) h2 h3;have e:(BV k).map (cI l)=some r:=e;cases hk:BV k with
  |none=>rw[hk] at e;cases e
  |some k'=>
   rw[hk] at e;cases e;cases BW hk ry;exact⟨_,.inl ⟨_,_,h1,rfl,rfl⟩,λn=>D.none n,λp q=>D.some q⟩
 ·obtain⟨xs,h1,h2,h3⟩:=o;have D:=jo.of (K:=K) (F:=F) h2 h3;have e:(gF ks).map (cI l)=some r:=e;cases hk:gF ks with
  |none=>rw[hk] at e;cases e
  |some k'=>
   rw[hk] at e;cases e;obtain⟨b,ys,rfl,hb,rr⟩:=Rep.wJ ry;cases tD hk rr;exact⟨_,.inr ⟨_,_,_,h1,rfl,s _ _ hb,rfl⟩,λn=>D.none n,λp q=>D.some q⟩
def gG(d k:PV):Option (Res PV):=match eE d k with
 |some (some p)=>some (.ok p)
 |_=>none
def XH:R2:=λx y H Q=>∃ a v,x=.ref a/\uf H a y (some v)/\Q v H
theorem Zb:R2M C (aD K) (aF K) (aF K) XH gG:=by
 intro F H x y a b res Q s ha hb e P;obtain⟨_,ad,rfl,o⟩:=ha;unfold gG at e;split at e
 ·rename_i p hp;cases e;obtain⟨ov,g,_,g2⟩:=rG s o hb hp;obtain⟨v,rfl,rv⟩:=g2 p rfl;exact⟨ad,v,rfl,g,P v F H (Up.refl s) rv⟩
 ·cases e
def BZ(k d:PV):Option (Res PV):=(eE d k).map λr=>.ok (.bl r.isSome)
def kJ(k d:PV):Option (Res PV):=(eE d k).map λr=>.ok (.bl (!r.isSome))
theorem T8:R2M C (aF K) (aD K) (aF K) (λy x H Q=>∃ a o,x=.ref a/\uf H a y o/\Q (.bl o.isSome) H) BZ:=by
 intro F H x y a b res Q s ha hb e P;obtain⟨_,ad,rfl,o⟩:=hb;unfold BZ at e;cases hp:eE b a with
 |none=>rw[hp] at e;cases e
 |some r=>
  rw[hp] at e;cases e;obtain⟨ov,g,g1,g2⟩:=rG s o ha hp;have es:ov.isSome=r.isSome:=by
   cases r with
   |none=>rw[g1 rfl];rfl
   |some p=>obtain⟨v,rfl,_⟩:=g2 p rfl;rfl
  exact⟨ad,ov,rfl,g,by rw[es];exact P _ F H (Up.refl s) .bl⟩
theorem wO:R2M C (aF K) (aD K) (aF K) (λy x H Q=>∃ a o,x=.ref a/\uf H a y o/\Q (.bl (!o.isSome)) H) kJ:=by
 intro F H x y a b res Q s ha hb e P;obtain⟨_,ad,rfl,o⟩:=hb;unfold kJ at e;cases hp:eE b a with
 |none=>rw[hp] at e;cases e
 |some r=>
  rw[hp] at e;cases e;obtain⟨ov,g,g1,g2⟩:=rG s o ha hp;have es:ov.isSome=r.isSome:=by
   cases r with
   |none=>rw[g1 rfl];rfl
   |some p=>obtain⟨v,rfl,_⟩:=g2 p rfl;rfl
  exact⟨ad,ov,rfl,g,by rw[es];exact P _ F H (Up.refl s) .bl⟩
theorem DLk.isD{F H:Hp}{a:Addr}{p:PV}(o:DLk K F H a p)(d:p.isD=true):IsD H a:=by
 cases p with
 |dk l=>obtain⟨xs,e,_⟩:=o;exact .inl ⟨xs,e⟩
 |dt l=>obtain⟨xs,e,_⟩:=o;exact .inr ⟨xs,e⟩
 |_=>cases d
def Ca(f g:Fn PV):Fn PV:=λZ=>bnd (f Z) λd=>bnd (g Z) λk=>(eE d k).map λr=>.ok (r.getD .non)
def yE(f g h:Fn PV):Fn PV:=λZ=>bnd (f Z) λd=>bnd (g Z) λk=>bnd (h Z) λx=>(eE d k).map λr=>.ok (r.getD x)
theorem JQ(ha:MJ K C (aD K) ta f)(hb:MJ K C (aF K) tb g):MJ K C (aF K) (Mx ta tb) (Ca f g):=by
 intro F H O Z Q r R e P;refine ha.run R e P ?_;rintro d v F1 H1 hk u ⟨hd,a,ea,o⟩;subst ea;refine⟨a,rfl,o.isD hd,?_⟩;refine hb.run (R.up u) hk (P.later u) λk w F2 H2 hk2 u2 b=>?_;cases hp:eE d k with
 |none=>rw[hp] at hk2;cases hk2
 |some q=>
  rw[hp] at hk2;cases hk2;obtain⟨ov,g,g1,g2⟩:=rG u2.fh (o.up u2.ff u2.hh) b hp;refine⟨ov,g,P _ F2 H2 (u.trans u2) ?_⟩;cases q with
  |none=>rw[g1 rfl];exact .non
  |some p=>obtain⟨v,rfl,rv⟩:=g2 p rfl;exact rv
theorem Cd(ha:MJ K C (aD K) ta f)(hb:MJ K C (aF K) tb g)(hc:MJ K C (aF K) tc h):MJ K C (aF K) (My ta tb tc) (yE f g h):=by
 intro F H O Z Q r R e P;refine ha.run R e P ?_;rintro d v F1 H1 hk u ⟨hd,a,ea,o⟩;subst ea;refine⟨a,rfl,o.isD hd,?_⟩;refine hb.run (R.up u) hk (P.later u) λk w F2 H2 hk2 u2 b=>?_;have u12:=u.trans u2;refine hc.run (R.up u12) hk2 (P.later u12) λx z F3 H3 hk3 u3 c=>?_;cases hp:eE d k with
 |none=>rw[hp] at hk3;cases hk3
 |some q=>
  rw[hp] at hk3;cases hk3;have u23:=u2.trans u3;obtain⟨ov,g,g1,g2⟩:=rG u3.fh (o.up u23.ff u23.hh) (Rep.up b u3.ff) hp;refine⟨ov,g,P _ F3 H3 (u12.trans u3) ?_⟩;cases q with
  |none=>rw[g1 rfl];exact c
  |some p=>obtain⟨v,rfl,rv⟩:=g2 p rfl;exact rv
def zZ:PV->PV->PV->Option PV
 |.dk l,k,p=>match BV k with
  |some k=>if l.length<sizeLine then some (.dk (iQ l k p)) else none
  |none=>none
 |.dt l,.tup ks,p=>match gF ks with
  |some k=>if l.length<sizeLine then some (.dt (iQ l k p)) else none
  |none=>none
 |_,_,_=>none
theorem Hq{F H:Hp}{a:Addr}{d k p d':PV}{y v:V}(s:aU F H)(o:Own K F H a d)(ry:Rep K F y k)(rv:Rep K F v p)(e:zZ d k p=some d') :
  ∃ ob,wD H a y v (upd H a ob)/\Own K F (upd H a ob) a d':=by
 have inv:(∃ l,d=.dk l)\/∃ l ks,d=.dt l/\k=.tup ks:=by
  clear o ry rv
  cases d<;>first|exact noS e|exact .inl ⟨_,rfl⟩|(cases k<;>first|exact noS e|exact .inr ⟨_,_,rfl,rfl⟩)
 rcases inv with⟨l,rfl⟩|⟨l,ks,rfl,rfl⟩
 ·obtain⟨xs,h1,h2,h3⟩:=o;have D:=jo.of (K:=K) (F:=F) h2 h3;have e:(match BV k with|some k=>if l.length<sizeLine then some (PV.dk (iQ l k p)) else none|none=>none)=some d':=e
  split at e
  case h_2=>cases e
  rename_i k' hk;split at e
  case isFalse=>cases e
  rename_i hz;cases e;cases BW hk ry;have D':=D.put (k:=k') rv;exact⟨_,wD.k h1 (by rw[D.len];exact hz),_,aP,D'.keys,D'.at⟩
 ·obtain⟨xs,h1,h2,h3⟩:=o;have D:=jo.of (K:=K) (F:=F) h2 h3;have e:(match gF ks with|some k=>if l.length<sizeLine then some (PV.dt (iQ l k p)) else none|none=>none)=some d':=e
  split at e
  case h_2=>cases e
  rename_i k' hk;split at e
  case isFalse=>cases e
  rename_i hz;cases e;obtain⟨b,ys,rfl,hb,rr⟩:=Rep.wJ ry;cases tD hk rr;have D':=D.put (k:=k') rv;exact⟨_,wD.t h1 (s _ _ hb) (by rw[D.len];exact hz),_,aP,D'.keys,D'.at⟩
def kO(i:Nat)(fe fk:Fn PV):Sn:=λZ=>gw (fe Z) λp=>match ownAt i Z with
 |some d=>gw (fk Z) λk=>match zZ d k p with
  |some d'=>some (.nx (Z.set i (some (.ow d'))))
  |none=>none
 |none=>none
theorem mG{i:Nat}{fe fk:Fn PV}(he:MJ K C (aF K) te fe)(hk:MJ K C (aF K) tb fk):MS K C (S8 (mj i) tb te) (kO i fe fk):=by
 intro F H O Z D o R e P;refine he.u9 R e P λp v F1 H1 hk1 u a=>?_;split at hk1
 case h_2=>cases hk1
 rename_i d hd;obtain⟨b,g1,_⟩:=R.ow i _ (bO hd);refine⟨_,g1,hk.u9 (R.up u) hk1 (P.up u.ff) λk w F2 H2 hk2 u2 rk=>?_⟩;split at hk2
 case h_2=>cases hk2
 rename_i d' hd';cases hk2;have R2:=R.up (u.trans u2);obtain⟨a',k1,k2,_⟩:=R2.ow i _ (bO hd);rw[g1] at k1;cases k1;obtain⟨ob,g,w'⟩:=Hq u2.fh k2 rk (Rep.up a u2.ff) hd';exact⟨b,_,rfl,g,P F2 _ O (u.trans u2).ff (R2.write (bO hd) g1 w')⟩
def Ce:Fn PV:=λ_=>some (.ok (.dt []))
theorem ou:MO K C S9 uy:=by
 intro F H O Z Q r R e P;cases e;intro p hp;exact P p F _ (Up.zW R.rb.sub hp) hp (R.rb.sub.free hp) ⟨[],aP,rfl,λj x p h=>by simp at h⟩
theorem wQ:MO K C Tc Ce:=by
 intro F H O Z Q r R e P;cases e;intro p hp;exact P p F _ (Up.zW R.rb.sub hp) hp (R.rb.sub.free hp) ⟨[],aP,rfl,λj x p h=>by simp at h⟩
def asPair:PV->Option (PV×PV)
 |.tup [a,b]=>some (a,b)
 |_=>none
def jH:List PV->Option (List (PV×PV))
 |[]=>some []
 |p::l=>match asPair p,jH l with
  |some a,some r=>some (a::r)
  |_,_=>none
def fK(d:PV):List (PV×PV)->Option PV
 |[]=>some d
 |(k,p)::r=>match zZ d k p with
  |some d'=>fK d' r
  |none=>none
theorem Ci{F H:Hp}(s:aU F H):∀ {l:List PV}{ps:List (PV×PV)}{xs:List V},jH l=some ps->bR K F xs l ->
  ∃ vs:List (V×V),Hd K H xs vs/\vs.length=ps.length/\∀ (j:Nat) x p,vs[j]?=some x->ps[j]?=some p->Rep K F x.1 p.1/\Rep K F x.2 p.2
 |[],ps,xs,h,r=>by
  cases h;cases r.jD;exact⟨[],⟨rfl,λj x p e=>by simp at e⟩,rfl,λj x p e=>by simp at e⟩
 |p::l,ps,xs,h,r=>by
  unfold jH at h;split at h
  ·rename_i a r' h1 h2;cases h;obtain⟨v,ys,rfl,r1,r2⟩:=r.dD;obtain⟨vs,g1,g2,g3⟩:=Ci s h2 r2;unfold asPair at h1;split at h1
   ·rename_i pa pb;cases h1;obtain⟨b,zs,rfl,hb,rr⟩:=Rep.dh r1;obtain⟨v1,zs1,rfl,q1,rr⟩:=rr.dD;obtain⟨v2,zs2,rfl,q2,rr⟩:=rr.dD;cases rr.jD;refine⟨(v1,v2)::vs,⟨by simp[g1.1],λj x p e1 e2=>?_⟩,by simp[g2],λj x p e1 e2=>?_⟩
    ·cases j with
     |zero=>simp at e1 e2;subst e1 e2;exact⟨b,rfl,s.tup hb⟩
     |succ j=>exact g1.2 j x p (by simpa using e1) (by simpa using e2)
    ·cases j with
     |zero=>simp at e1 e2;subst e1 e2;exact⟨q1,q2⟩
     |succ j=>exact g3 j x p (by simpa using e1) (by simpa using e2)
   ·cases h1
  ·cases h
theorem Cj{F:Hp}{a:Addr}{Q:Hp->Prop}:∀ {ps:List (PV×PV)}{vs:List (V×V)}{H:Hp}{d d':PV},aU F H->F a=none->Own K F H a d->vs.length=ps.length->(∀ (j:Nat) x p,vs[j]?=some x->ps[j]?=some p->Rep K F x.1 p.1/\Rep K F x.2 p.2) ->
  fK d ps=some d'->(∀ H',aU F H'->(∀ b,b≠a->H' b=H b)->Own K F H' a d'->Q H')->FW a vs H Q
 |[],vs,H,d,d',s,hn,o,hl,hr,e,q=>by
  cases vs with
  |nil=>cases e;exact q H s (λ_ _=>rfl) o
  |cons v vs=>simp at hl
 |(k,p)::ps,vs,H,d,d',s,hn,o,hl,hr,e,q=>by
  cases vs with
  |nil=>simp at hl
  |cons v vs=>
   unfold fK at e;split at e
   case h_2=>cases e
   rename_i d1 h1;obtain⟨r1,r2⟩:=hr 0 v (k,p) rfl rfl;obtain⟨ob,g,o1⟩:=Hq s o r1 r2 h1;refine⟨_,g,Cj (H:=upd H a ob) (λb u z=>by rw[aL (cj z hn)];exact s b u z) hn o1 (by simpa using hl) (λj x p e1 e2=>hr (j+1) x p (by simpa using e1) (by simpa using e2)) e λH' s' hb o'=>?_⟩
   exact q H' s' (λb hb'=>(hb b hb').trans (aL hb')) o'
def qj(d:PV)(l:List PV):Option (Res PV):=match jH l with
 |some ps=>(fK d ps).map .ok
 |none=>none
theorem Hr{n:HO}{d:PV}(hd:∀ F H a,H a=some n->Own K F H a d):R1O K C (aV K) (Ho K n) (qj d):=by
 intro F H x l res Q s ha e P;obtain⟨b,xs,rfl,h1,r1⟩:=ha;unfold qj at e;split at e
 case h_2=>cases e
 rename_i ps hps;cases hd':fK d ps with
 |none=>rw[hd'] at e;cases e
 |some d'=>
  rw[hd'] at e;cases e;obtain⟨vs,g1,g2,g3⟩:=Ci (H:=H) s hps r1;refine⟨b,xs,vs,rfl,.inl h1,g1,λa na=>?_⟩;refine Cj (F:=F) (s.trans (fj na)) (s.free na) (hd _ _ _ aP) g2 g3 hd' λH' s' hb o'=>?_;exact P a F H' ⟨aU.refl _,λc o q=>by rw[hb c (cj q na),aL (cj q na)];exact q,λ_ _ q=>.inl q,s'⟩ na (s.free na) o'
theorem O5{F H:Hp}{a:Addr}(h:H a=some (.dK [])):Own K F H a (.dk []):=⟨[],h,rfl,λj x p e=>by simp at e⟩
theorem Wv{F H:Hp}{a:Addr}(h:H a=some (.dT [])):Own K F H a (.dt []):=⟨[],h,rfl,λj x p e=>by simp at e⟩
end
section
variable{K:Frag}{C:Cg}{ta tb:TE}{f g:Fn PV}
theorem jh(ha:MJ K C (aD K) ta f)(hb:MJ K C (aF K) tb g):MJ K C (aF K) (S7 ta tb) (m2 gG f g):=aA (r2:=XH) aD.up Zb ha hb
end
section
variable{X:Cx}
theorem M5{k:Nat}(hr:gr k X.A):OpR X (compareOp .In) (λy x H Q=>∃ a o,x=.ref a/\uf H a y o/\Q (.bl o.isSome) H):=by
 intro pins s O H x y v u Q I rx ry h;obtain⟨a,o,rfl,g,q⟩:=h;cases ry;exact aaM (jC hr) I g rx λs3 I3=>⟨.bl o.isSome,H,I3,rfl,q⟩
theorem yF{k:Nat}(hr:gr k X.A):OpR X (compareOp .NotIn) (λy x H Q=>∃ a o,x=.ref a/\uf H a y o/\Q (.bl (!o.isSome)) H):=by
 intro pins s O H x y v u Q I rx ry h;obtain⟨a,o,rfl,g,q⟩:=h;cases ry;exact Wf (jC hr) I g rx λs3 I3=>⟨.bl (!o.isSome),H,I3,rfl,q⟩
theorem Ck{k:Nat}(hr:gr k X.A)(hc:X.calm=true):mW X (.type "dict") (Ho X.K (.dK [])):=BR hc hr.units (.inl rfl)
theorem M6{k:Nat}(hr:gr k X.A)(hc:X.calm=true):mW X (.type "dict") (Ho X.K (.dT [])):=BR hc hr.units (.inr rfl)
end
section
variable{X:Cx}{k:Nat}{N:List Str}{scope:Scope}{cl:List (Str×Addr)}{C:Addr}{s2:Shared}{H2:Hp}{fp:List Addr}
theorem Cm(hr:gr k X.A):OpR (X.comp N scope cl C s2 H2 fp) (compareOp .NotIn) (λy x H Q=>∃ a o,x=.ref a/\uf H a y o/\Q (.bl (!o.isSome)) H):=yF hr
theorem fP{X:Cx}{k:Nat}{o i:Expr}{pos:Pos}{td ty:TE}(hr:gr k X.A)(ho:PE X o td)(hi:PE X i ty)(hs:YL i):PE X (.Subscript o i pos) (S7 td ty):=Wh (jC hr) ho hi hs
theorem FZ{X:Cx}{k:Nat}{o e:Expr}{apos cpos:Pos}{td ty:TE}(hr:gr k X.A)(ho:PE X o td)(he:PE X e ty)(m:M1 X o "get" apos e cpos):PE X (.Call (.Attribute o "get" apos) [e] [] cpos) (Mx td ty):=Te (jC hr) ho he m
theorem yG{X:Cx}{k:Nat}{o e f:Expr}{apos cpos:Pos}{td ty tx:TE}(hr:gr k X.A)(ho:PE X o td)(he:PE X e ty)(hf:PE X f tx)(m:M2 X o "get" apos e f cpos):PE X (.Call (.Attribute o "get" apos) [e,f] [] cpos) (My td ty tx):=Tf (jC hr) ho he hf m
end
section
variable{X:Cx}
def CR(a b c:Int):Prop:=0<=a/\a<2^30/\-(2^30)<=b/\b<2^30/\0<c/\c<2^30
noncomputable instance(a b c:Int):Decidable (CR a b c):=inferInstanceAs (Decidable (_/\_))
def XJ:List V->Hp->VK->Prop:=λxs H Q=>∃ j:Int,xs=[.int j]/\-(2^30)<=j/\j<2^30/\∀ r,H r=none->Q (.ref r) (upd H r (.rng 0 j))
theorem Rf:mW X (.type "range") XJ:=by
 intro pins s O H xs us Q I rv h;obtain⟨j,rfl,h1,h2,q⟩:=h;obtain⟨u,rfl,ru⟩:=rv.one;obtain⟨t,rfl⟩:=ru;refine call_range_1 ?_;exact⟨.ref s.heap.objs.size,_,I.laid (a:=s.heap.objs.size) (o:=.rng 0 j) (t':=s.toks+1+1) (λ_ _ q=>Zai _ q) (Zal _) ⟨_,_,_,Zar _ rfl⟩,rfl,q _ (I.hok.fresh (Zal _))⟩
def JR(j:Int):List V:=(List.range j.toNat).map λi=>.int (i:Nat)
theorem Hs:(2:Nat)^23<=sizeLine/\sizeLine<=2^24:=by decide
theorem T9(j:Int):Builtin.Range.rangeSize 0 j 1=(j.toNat:Int):=by rw[rangeSize_one];split<;>omega
theorem sW{acc:Array Value}{n:Nat}(h:ItemsOf (λi v=>∃ t,v=.int (0+(i:Nat)*1) t) acc n):Vals ((List.range n).map λi=>V.int (i:Nat)) acc.toList:=by
 obtain⟨hs,hv⟩:=h;have go:∀ (l:List Value) (k:Nat),(∀ (i:Nat) v,l[i]?=some v->∃ t,v=Value.int (((k+i:Nat):Int)) t)->Vals ((List.range' k l.length).map λi=>V.int (i:Nat)) l:=by
  intro l;induction l with
  |nil=>intro k _;exact .nil
  |cons v l ih=>
   intro k h;rw[ZaQ,List.range'_succ,Zap];obtain⟨t,e⟩:=h 0 v rfl;refine .cons ⟨t,by rw[e];rfl⟩ (ih (k+1) λi v hv=>?_)
   obtain⟨t,e⟩:=h (i+1) v (by simpa using hv)
   exact⟨t,by rw[e];congr 2;omega⟩
 have:=go acc.toList 0 λi v e=>by
  obtain⟨t,e2⟩:=hv i v (by simpa using e)
  exact⟨t,by rw[e2];congr 1;omega⟩
 rwa [ZaZ,hs,<-List.range_eq_range'] at this
def Ua(mk:List V->HO):List V->Hp->VK->Prop:=λxs H Q=>∃ p j,xs=[.ref p]/\H p=some (.rng 0 j)/\-(2^30)<=j/\j<=1000000/\∀ l,H l=none->Q (.ref l) (upd H l (mk (JR j)))
theorem Rg{j:Int}(h:j<=1000000)(h0:-(2^62)<=j):Builtin.Range.small 0 j 1=true:=small_one (by decide) (by decide) h0 (by omega)
theorem Rh(hc:X.calm=true):mW X (.type "list") (Ua .lst):=by
 intro pins s O H xs us Q I rv h;obtain⟨p,j,rfl,hp,h0,hj,q⟩:=h;obtain⟨u,rfl,ru⟩:=rv.one;cases ru;obtain⟨t,u,v,hr⟩:=(show dB X.prog X.w H s.heap p (.rng 0 j) from I.hok p _ hp);have big:=Hs;refine call_list_range (I.ok.hd hc) hr (Rg hj (by omega)) (T9 j) (by omega) λh' tk acc c' hk hS hacc=>?_
 have hv:=sW hacc;refine⟨.ref s.heap.objs.size,_,I.laid (a:=s.heap.objs.size) (t':=tk) (o:=.lst (JR j)) hk (Zal _) (show dB X.prog X.w _ _ _ (.lst (JR j)) from⟨?_,acc.toList,c',hv,by simpa using hS⟩),rfl,q _ (I.hok.fresh (Zal _))⟩
 unfold JR;rw[Zab,Zay];omega
end
section
variable{K:Frag}{C:Cg}{F:Hp}{te:TE}{f:Fn PV}
def Ub(mk:List PV->PV):PV->Option (Res PV)
 |.int j=>if -(2^30)<=j/\j<=1000000 then some (.ok (mk ((List.range j.toNat).map λi=>.int (i:Nat)))) else none
 |_=>none
theorem M7(n:Nat):bR K F ((List.range n).map λi=>V.int (i:Nat)) ((List.range n).map λi=>PV.int (i:Nat)):=by
 refine⟨by simp,λj x p a b=>?_⟩
 rw[Zad] at a b;cases h:(List.range n)[j]? with
 |none=>rw[h] at a;cases a
 |some i=>rw[h] at a b;cases a;cases b;exact .int
theorem Ww(h:MJ K C (aF K) te f):MO K C (tCB (Ua .lst) (jU (tCB XJ (jU te uX)) uX)) (m1 (Ub .lst) f):=by
 intro F H O Z Q r R e P;refine h.run R e P λp v F1 H1 hk u a=>?_
 match p,hk with
 |.int j,hk=>
  have hk:(if -(2^30)<=j/\j<=1000000 then some (Res.ok (PV.lst ((List.range j.toNat).map λi=>PV.int (i:Nat)))) else none)=some r:=hk;split at hk
  ·rename_i hj;cases hk;cases Rep.bD a;refine⟨j,rfl,hj.1,by omega,λrr hr=>⟨rr,j,rfl,aP,hj.1,hj.2,λl hl=>?_⟩⟩
   have u1:=Up.zW (o:=.rng 0 j) u.fh hr;have un:=Up.zW (o:=.lst (JR j)) u1.fh hl;exact P l _ _ (u.trans (u1.trans un)) (u.hh.free (u1.hh.free hl)) (u1.fh.free hl) ⟨_,aP,M7 _⟩
  ·cases hk
end
section
variable{K:Frag}{C:Cg}{ta:TE}{f:Fn PV}
def O6:PV->Option (Res PV)
 |.int i=>some (.ok (.int (Builtin.bitNot i)))
 |_=>none
theorem Uc(ha:MJ K C (aF K) ta f):MJ K C (aF K) (tUn (rU λi=>.int (Builtin.bitNot i)) ta) (m1 O6 f):=by
 intro F H O Z Q r R e P;refine ha.run R e P λp v F1 H1 hk u a=>?_
 match p,hk with
 |.int i,hk=>
  cases Rep.bD a;cases hk;exact⟨i,rfl,P _ F1 H1 u .int⟩
end
def POk(K:Frag)(C:Cg)(F:Hp)(D:Ends)(i:Nat)(c:Option (Option V)):Out->Prop
 |.nx Z=>∀ F' H' O,aU F F'->RE K C.toCf F' H' O Z->O[i]?=c->D.nx O H'
 |.bk Z=>∀ F' H' O,aU F F'->RE K C.toCf F' H' O Z->O[i]?=c->D.bk O H'
 |.ct Z=>∀ F' H' O,aU F F'->RE K C.toCf F' H' O Z->O[i]?=c->D.ct O H'
 |o=>PO' K C F D o
def MSk(K:Frag)(C:Cg)(i:Nat)(t:TS)(f:Sn):Prop:=∀ F H O Z D o,RE K C.toCf F H O Z->f Z=some o->POk K C F D i (O[i]?) o->t D O H
def MGk(K:Frag)(C:Cg)(i:Nat)(g:TG)(tg:PV->Rho->Option Rho):Prop:=
 ∀ F H O Z v p Z' Q,RE K C.toCf F H O Z->Rep K F v p->tg p Z=some Z'->(∀ O',RE K C.toCf F H O' Z'->O'[i]?=O[i]?->Q O' H)->g v O H Q
section
variable{K:Frag}{C:Cg}{i:Nat}{te:TE}{F H:Hp}{O:St}{Z:Rho}{D:Ends}{t u:TS}{f g:Sn}{o:Out}{c:Option (Option V)}
theorem POk.up{F1:Hp}(h:POk K C F D i c o)(s:aU F F1):POk K C F1 D i c o:=by
 cases o with
 |nx Z=>exact λF' H' O a=>h F' H' O (s.trans a)
 |bk Z=>exact λF' H' O a=>h F' H' O (s.trans a)
 |ct Z=>exact λF' H' O a=>h F' H' O (s.trans a)
 |rt p=>exact λv F' H' a=>h v F' H' (s.trans a)
 |ro p=>exact λv F' H' a=>h v F' H' (s.trans a)
 |rd p=>exact λv F' H' S a=>h v F' H' S (s.trans a)
 |ex z=>exact PX.up h s
theorem kW(j:Nat)(h:j≠i):MGk K C i (zj j) (gN j):=λF H O Z v p Z' Q R r e k=>by
 cases e;exact k _ (R.set j r) (Zax h)
theorem MT.Ud{tt:TT}{fe:Fn Bool}{Q:Bool->Hp->Prop}{k:Bool->Option Out}(h:MT K C tt fe)(R:RE K C.toCf F H O Z)(hb:gw (fe Z) k=some o)(P:POk K C F D i c o)
  (go:∀ b F1 H1,k b=some o->Up F H F1 H1->Q b H1):tt O H Q:=by
 rcases dg hb with⟨z,e,rfl⟩|⟨p,e,hk⟩
 ·exact h F H O Z Q _ R e P
 ·exact h F H O Z Q _ R e λF1 H1 u=>go p F1 H1 hk u
theorem MJ.Ud{α:Type}{A:Rel α}{ta:TE}{fe:Fn α}{Q:VK}{k:α->Option Out}(h:MJ K C A ta fe)(R:RE K C.toCf F H O Z)(hb:gw (fe Z) k=some o)(P:POk K C F D i c o)
  (go:∀ p v F1 H1,k p=some o->Up F H F1 H1->A F1 H1 v p->Q v H1):ta O H Q:=by
 rcases dg hb with⟨z,e,rfl⟩|⟨p,e,hk⟩
 ·exact h F H O Z Q _ R e P
 ·exact h F H O Z Q _ R e λv F1 H1 u a=>go p v F1 H1 hk u a
theorem oA{fe:Fn PV}{gt:TG}{tg:PV->Rho->Option Rho}(h:MJ K C (aF K) te fe)(hg:MGk K C i gt tg):MSk K C i (QH te gt) (cN fe tg):=by
 intro F H O Z D o R e P;refine h.Ud R e P λp v F1 H1 hk u a=>?_;split at hk
 ·rename_i Z' h1;cases hk;exact hg F1 H1 O Z v p Z' _ (R.up u) a h1 λO' R' k=>P F1 H1 O' u.ff R' k
 ·cases hk
theorem j7(h1:MSk K C i t f)(h2:MSk K C i u g):MSk K C i (Yq t u) (aY f g):=by
 intro F H O Z D o R e P;unfold aY at e;split at e
 ·rename_i Z' h;refine h1 F H O Z _ _ R h ?_;exact λF' H' O' s R' k=>h2 F' H' O' Z' D o R' e (by rw[k];exact P.up s)
 ·rename_i x hx;cases o with
  |nx Z'=>exact absurd e (hx Z')
  |bk Z=>exact h1 F H O _ _ _ R e P
  |ct Z=>exact h1 F H O _ _ _ R e P
  |rt p=>exact h1 F H O _ _ _ R e P
  |ro p=>exact h1 F H O _ _ _ R e P
  |rd p=>exact h1 F H O _ _ _ R e P
  |ex z=>exact h1 F H O _ _ _ R e P
end
def New(H F' H':Hp)(S:Addr->Prop):Prop:=∀ b,S b->H b=none/\F' b=none/\∃ o,H' b=some o/\∀ ys,o≠.tup ys
def MD(K:Frag)(C:Cg)(te:TE)(f:Fn PV):Prop:=
 ∀ F H O Z Q r,RE K C.toCf F H O Z->f Z=some r->Pr C F (λp=>∀ v F' H' S,Up F H F' H'->Dp K F' H' S v p->New H F' H' S->Q v H') r->te O H Q
def spD(K:Frag)(XR:Hp->Value->Option Addr->PV->Prop)(m:List PV->Option (Res PV)):Sp:=λvs H Q E=>∃ ps F r,aU F H/\bR K F vs ps/\m ps=some r/\match r with
 |.ok p=>∀ v F' H' S,Up F H F' H'->Dp K F' H' S v p->New H F' H' S->Q v H'
 |.ex z=>∀ e d F' H',Up F H F' H'->XR F' e d z->E e d H'
section
variable{K:Frag}{C:Cg}{te:TE}{F F1 F2 H H1 H2:Hp}{O:St}{Z:Rho}{D:Ends}{t u:TS}{f g:Sn}{o:Out}{S:Addr->Prop}{v:V}{p:PV}
theorem New.up(n:New H F1 H1 S)(u:Up F1 H1 F2 H2):New H F2 H2 S:=λb q=>by
 obtain⟨n0,n1,o,n2,n3⟩:=n b q;refine⟨n0,?_,o,u.hh _ _ n2,n3⟩;cases e:F2 b with
 |none=>rfl
 |some o'=>
  rcases u.fr b o' e with z|z|⟨ys,z⟩
  ·rw[n1] at z;cases z
  ·rw[n2] at z;cases z
  ·subst z;have w:=u.fh _ _ e;rw[u.hh _ _ n2] at w;cases w;exact absurd rfl (n3 ys)
theorem Dp.stay(d:Dp K F1 H1 S v p)(u:Up F1 H1 F2 H2):Dp K F2 H2 S v p:=d.up u.ff (λb o _ q=>u.hh b o q) λb ys q=>u.hh b _ q
def ul(F H:Hp)(S:Addr->Prop):Hp:=λb=>@ite _ (S b\/∃ ys,H b=some (.tup ys)) (Classical.propDecidable _) (H b) (F b)
theorem gf{b:Addr}(h:S b\/∃ ys,H b=some (.tup ys)):ul F H S b=H b:=@if_pos _ (Classical.propDecidable _) h _ _ _
theorem fB{b:Addr}(h:¬(S b\/∃ ys,H b=some (.tup ys))):ul F H S b=F b:=@if_neg _ (Classical.propDecidable _) h _ _ _
theorem iw(s:aU F H):aU F (ul F H S):=λb o e=>by
 by_cases h:S b\/∃ ys,H b=some (.tup ys)
 ·rw[gf h];exact s b o e
 ·rw[fB h];exact e
theorem pI(s:aU F H):aU (ul F H S) H:=λb o e=>by
 by_cases h:S b\/∃ ys,H b=some (.tup ys)
 ·rw[gf h] at e;exact e
 ·rw[fB h] at e;exact s b o e
theorem JS(d:Dp K F H S v p)(s:aU F H):Rep K (ul F H S) v p:=
 d.seen (iw s) (λb o q e=>by rw[gf (.inl q)];exact e) λb ys e=>by rw[gf (.inr ⟨ys,e⟩)];exact e
theorem Wx(u:Up F H F1 H1)(n:New H F1 H1 S):Up F H (ul F1 H1 S) H1 where
 ff:=u.ff.trans (iw u.fh)
 hh:=u.hh
 fr:=λb o e=>by
  by_cases h:S b\/∃ ys,H1 b=some (.tup ys)
  ·rw[gf h] at e;rcases h with h|⟨ys,h⟩
   ·exact .inr (.inl (n b h).1)
   ·rw[h] at e;cases e;exact .inr (.inr ⟨ys,rfl⟩)
  ·rw[fB h] at e;exact u.fr b o e
 fh:=pI u.fh
theorem Ue{fe:Fn PV}(h:MD K C te fe):MJ K C (aF K) te fe:=λF H O Z Q r R e P=>
 h F H O Z Q r R e (Pr.mono P (aU.refl _) λp q v F' H' S u d n=>q v _ H' (Wx u n) (JS d u.fh))
def JT(fe:Fn PV):Fn PV:=λZ=>bnd (fe Z) λp=>match p with
 |.lst l=>if l.all PV.still=true then some (.ok (.lst l)) else none
 |_=>none
theorem XM{fe:Fn PV}(h:MO K C te fe):MD K C te (JT fe):=by
 intro F H O Z Q r R e P;rcases bW e with⟨z,e1,rfl⟩|⟨p,e1,hk⟩
 ·exact h F H O Z Q _ R e1 P
 ·split at hk
  ·rename_i l;split at hk
   ·rename_i hl;cases hk;refine h F H O Z Q _ R e1 λa F' H' u n1 n2 w=>?_;obtain⟨xs,e2,e3⟩:=w;refine P _ F' H' (λb=>b=a) u ?_ ?_
    ·refine .lst (S:=λ_ _=>False) e2 rfl (λj b q=>q.elim) (λi j b q=>q.elim) e3.1 λj x p e4 e5=>.fr (e3.2 j x p e4 e5) ?_;exact ZaP.mp hl p (Zah e5)
    ·rintro b rfl;exact⟨n1,n2,_,e2,λys q=>by cases q⟩
   ·cases hk
  ·cases hk
def vo(fe:Fn PV):Fn PV:=λZ=>bnd (fe Z) λp=>if p.still=true then some (.ok p) else none
theorem wR{fe:Fn PV}(h:MJ K C (aF K) te fe):MD K C te (vo fe):=by
 intro F H O Z Q r R e P;rcases bW e with⟨z,e1,rfl⟩|⟨p,e1,hk⟩
 ·exact h F H O Z Q _ R e1 P
 ·split at hk
  ·rename_i hp;cases hk;exact h F H O Z Q _ R e1 λv F' H' u w=>P v F' H' (λ_=>False) u (.fr w hp) λb q=>q.elim
  ·cases hk
theorem tE{t:TA}{fe:Fn (List PV)}{m:List PV->Option (Res PV)}(h:MA K C t fe):MD K C (wj (spD K C.XR m) [] C.E t) (bC m fe):=by
 intro F H O Z Q r R e P;refine h.run R e P λl xs F1 H1 hk u a=>?_;refine⟨l,F1,r,u.fh,by rw[Za1];exact a,hk,?_⟩
 cases r with
 |ok p=>exact λv F' H' S u' d n=>P v F' H' S (u.trans u') d λb q=>⟨u.hh.free (n b q).1,(n b q).2⟩
 |ex z=>exact λe d F' H' u' x=>P e d F' H' (u.trans u').ff (R.rb.up (u.trans u')) x
def Dps(K:Frag)(F H:Hp)(S:Nat->Addr->Prop)(xs:List V)(l:List PV):Prop:=
 xs.length=l.length/\(∀ i j b,S i b->S j b->i=j)/\∀ (j:Nat) x p,xs[j]?=some x->l[j]?=some p->Dp K F H (S j) x p
def rH(i:Nat)(Z:Rho):Option PV:=match Z[i]? with
 |some (some (.dp p))=>some p
 |_=>none
theorem du{i:Nat}{p:PV}(h:rH i Z=some p):Z[i]?=some (some (.dp p)):=by
 unfold rH at h;split at h
 ·rename_i q hq;cases h;exact hq
 ·cases h
theorem RE.aaP{C:Cf}(R:RE K C F H O Z)(i:Nat)(u:Up F H F1 H1)(d:Dp K F1 H1 S v p)(n:New H F1 H1 S)(nw:C.nw):RE K C F1 H1 (O.set i (some v)) (Z.set i (some (.dp p))) where
 rb:=R.rb.up u
 len:=by simp[R.len]
 sh:=λj q e=>by
  rcases get_set e with⟨e1,e2⟩|⟨e1,e2⟩
  ·cases e2
  ·obtain⟨w,e3,e4⟩:=(R.up u).sh j q e2;exact⟨w,by rw[Zax e1];exact e3,e4⟩
 ow:=λj q e=>by
  rcases get_set e with⟨e1,e2⟩|⟨e1,e2⟩
  ·cases e2
  ·obtain⟨w,e3,e4⟩:=(R.up u).ow j q e2;exact⟨w,by rw[Zax e1];exact e3,e4⟩
 dis:=λj k q q' b e e' f f'=>by
  rcases get_set e with⟨e1,e2⟩|⟨e1,e2⟩
  ·cases e2
  ·rcases get_set e' with⟨e1',e2'⟩|⟨e1',e2'⟩
   ·cases e2'
   ·rw[Zax e1] at f;rw[Zax e1'] at f';exact R.dis j k q q' b e2 e2' f f'
 dd:=by
  obtain⟨P,d0⟩:=R.dd;have d1:=d0.up u;refine⟨λj b=>if j=i then S b else P j b,λj b q=>?_,λj k b a1 a2=>?_,λj k q b z e f=>?_,λj q e=>?_⟩
  ·by_cases hj:j=i
   ·simp only[hj,Zbw] at q;obtain⟨c1,c2,c3⟩:=n b q;exact⟨c2,c3,nw,R.rb.wK c1⟩
   ·simp only[hj,Zba] at q;exact d1.own j b q
  ·by_cases hj:j=i<;>by_cases hk:k=i
   ·rw[hj,hk]
   ·simp only[hj,hk,Zbw,Zba] at a1 a2;obtain⟨_,⟨o,c,_⟩,_⟩:=d0.own k b a2;rw[(n b a1).1] at c;cases c
   ·simp only[hj,hk,Zbw,Zba] at a1 a2;obtain⟨_,⟨o,c,_⟩,_⟩:=d0.own j b a1;rw[(n b a2).1] at c;cases c
   ·simp only[hj,hk,Zba] at a1 a2;exact d0.dis j k b a1 a2
  ·rcases get_set e with⟨e1,e2⟩|⟨e1,e2⟩
   ·cases e2
   ·rw[Zax e1] at f;by_cases hj:j=i
    ·simp only[hj,Zbw] at z;exact R.apart (n b z).1 k q e2 f
    ·simp only[hj,Zba] at z;exact d0.ow j k q b z e2 f
  ·rcases get_set e with⟨e1,e2⟩|⟨e1,e2⟩
   ·subst e1;cases e2;have:=cL e;refine⟨v,by rw[Zbe (by rw[R.len];simpa using this)],?_⟩
    simp only[Zbw];exact d
   ·obtain⟨w,e3,e4⟩:=d1.dp j q e2;refine⟨w,by rw[Zax e1];exact e3,?_⟩
    simp only[Zbj e1,Zba];exact e4
def uz(i:Nat)(fe:Fn PV):Sn:=λZ=>gw (fe Z) λp=>some (.nx (Z.set i (some (.dp p))))
theorem ql{i:Nat}{fe:Fn PV}(nw:C.nw)(h:MD K C te fe):MS K C (QH te (zj i)) (uz i fe):=by
 intro F H O Z D o R e P;rcases dg e with⟨z,e1,rfl⟩|⟨p,e1,hk⟩
 ·exact h F H O Z _ _ R e1 P
 ·cases hk;exact h F H O Z _ _ R e1 λv F1 H1 S u d n=>P F1 H1 _ u.ff (R.aaP i u d n nw)
theorem RE.Ug{C:Cf}(R:RE K C F H O Z){i:Nat}(e:Z[i]?=some (some (.dp p))):∃ S v,O[i]?=some (some v)/\Dp K F H S v p/\(∀ b,S b->F b=none/\(∃ o,H b=some o/\∀ ys,o≠.tup ys)/\C.H0 b=none)/\RE K C (ul F H S) H O (Z.set i (some (.sh p))):=by
 obtain⟨P,d⟩:=R.dd;obtain⟨v,e1,e2⟩:=d.dp i p e;have li:=cL e;have sf:aU F (ul F H (P i)):=iw R.rb.sub;refine⟨P i,v,e1,e2,λb q=>⟨(d.own i b q).1,(d.own i b q).2.1,(d.own i b q).2.2.2⟩,⟨⟨pI R.rb.sub,R.rb.keep,λb o q=>?_,R.rb.ios⟩,by simp[R.len],λj q f=>?_,λj q f=>?_,λj k q q' b f f' g g'=>?_,?_⟩⟩
 ·by_cases h:P i b\/∃ ys,H b=some (.tup ys)
  ·rw[gf h] at q;rcases h with h|⟨ys,h⟩
   ·exact .inr (.inl (d.own i b h).2.2.2)
   ·rw[h] at q;cases q;exact .inr (.inr ⟨ys,rfl⟩)
  ·rw[fB h] at q;exact R.rb.new b o q
 ·rcases get_set f with⟨f1,f2⟩|⟨f1,f2⟩
  ·subst f1;cases f2;exact⟨v,e1,JS e2 R.rb.sub⟩
  ·obtain⟨w,g1,g2⟩:=R.sh j q f2;exact⟨w,g1,g2.up sf⟩
 ·rcases get_set f with⟨f1,f2⟩|⟨f1,f2⟩
  ·cases f2
  ·obtain⟨b,g1,g2,g3,g4⟩:=R.ow j q f2;refine⟨b,g1,g2.up sf λ_ z=>z,?_,g4⟩;rw[fB]
   ·exact g3
   ·rintro(z|⟨ys,z⟩)
    ·exact d.ow i j q b z f2 g1
    ·exact g2.zq z
 ·rcases get_set f with⟨f1,f2⟩|⟨f1,f2⟩
  ·cases f2
  ·rcases get_set f' with⟨f1',f2'⟩|⟨f1',f2'⟩
   ·cases f2'
   ·exact R.dis j k q q' b f2 f2' g g'
 ·refine⟨λj b=>j≠i/\P j b,λj b z=>?_,λj k b a1 a2=>d.dis j k b a1.2 a2.2,λj k q b z f g=>?_,λj q f=>?_⟩
  ·obtain⟨c1,c2,c3⟩:=d.own j b z.2;refine⟨?_,c2,c3⟩;rw[fB]
   ·exact c1
   ·rintro(y|⟨ys,y⟩)
    ·exact z.1 (d.dis j i b z.2 y)
    ·obtain⟨o,c4,c5⟩:=c2;rw[y] at c4;cases c4;exact c5 ys rfl
  ·rcases get_set f with⟨f1,f2⟩|⟨f1,f2⟩
   ·cases f2
   ·exact d.ow j k q b z.2 f2 g
  ·rcases get_set f with⟨f1,f2⟩|⟨f1,f2⟩
   ·cases f2
   ·obtain⟨w,g1,g2⟩:=d.dp j q f2;refine⟨w,g1,(g2.up sf (λ_ _ _ q=>q) λ_ _ q=>q).mono λb z=>⟨Zbj f1,z⟩⟩
def mFz(i:Nat)(fe:Fn PV):Fn PV:=λZ=>match rH i Z with
 |some p=>bnd (fe (Z.set i (some (.sh p)))) λq=>if q.flat=true then some (.ok q) else none
 |none=>none
theorem aap{i:Nat}{fe:Fn PV}(h:MJ K C (aF K) te fe):MJ K C (aF K) te (mFz i fe):=by
 intro F H O Z Q r R e P;unfold mFz at e;split at e
 ·rename_i p hp;obtain⟨S,v,_,_,_,R'⟩:=R.Ug (du hp);have sf:aU F (ul F H S):=iw R.rb.sub;rcases bW e with⟨z,e1,rfl⟩|⟨q,e1,hk⟩
  ·exact h _ H O _ Q _ R' e1 (PX.up P sf)
  ·split at hk
   ·rename_i hq;cases hk;exact h _ H O _ Q _ R' e1 λw F1 H1 u rw'=>P w F H1 ⟨aU.refl _,u.hh,λ_ _ z=>.inl z,R.rb.sub.trans u.hh⟩ (Rep.free rw' hq)
   ·cases hk
 ·cases e
def vp(i:Nat):Sn:=λZ=>match rH i Z with
 |some p=>some (.rd p)
 |none=>none
theorem JV(i:Nat):MS K C (QG (mj i)) (vp i):=by
 intro F H O Z D o R e P;unfold vp at e;split at e
 ·rename_i p hp;cases e;obtain⟨S,v,e1,e2,e3,_⟩:=R.Ug (du hp);exact⟨_,e1,P v F H S (aU.refl _) R.rb e2 e3⟩
 ·cases e
end
section
variable{K:Frag}{C:Cg}{F H:Hp}{O:St}{Z:Rho}{f g:Sn}{o:Out}{S:Addr->Prop}{v:V}{p:PV}
theorem Dp.cH{l:List PV}(d:Dp K F H S v (.lst l)):∃ (T:Nat->Addr->Prop) (a:Addr) (xs:List V),v=.ref a/\H a=some (.lst xs)/\S a/\(∀ j b,T j b->S b/\b≠a)/\Dps K F H T xs l:=by
 cases d with
 |fr h st=>cases st
 |lst h hp hs dj hl hr=>exact⟨_,_,_,rfl,h,hp,hs,hl,dj,hr⟩
theorem RE.Cp{C:Cf}(R:RE K C F H O Z){P:Nat->Addr->Prop}(d:RD K C F H O Z P){i:Nat}(e:Z[i]?=some (some (.dp p)))(e1:O[i]?=some (some v)){a:Addr}{ob:HO}(ha:P i a)(ho:∀ ys,ob≠.tup ys){p':PV}{S':Addr->Prop}
  (hd:Dp K F (upd H a ob) S' v p')(hS:∀ b,S' b->P i b\/(F b=none/\(∃ o,H b=some o/\∀ ys,o≠.tup ys)/\C.nw/\C.H0 b=none/\(∀ j,¬P j b)/\∀ (j:Nat) q,Z[j]?=some (some (.ow q))->O[j]?≠some (some (.ref b)))) :
  RE K C F (upd H a ob) O (Z.set i (some (.dp p'))):=by
 obtain⟨c1,⟨oa,c2,c3⟩,c4,c5⟩:=d.own i a ha;have hio:¬C.io a:=λz=>(R.rb.ios a z).2 c5;refine⟨⟨λb o q=>by rw[aL (λz=>by subst z;rw[c1] at q;cases q)];exact R.rb.sub b o q,λb o q z=>by rw[aL (λy=>by subst y;rw[c5] at q;cases q)];exact R.rb.keep b o q z,R.rb.new,λb z=>?_⟩,by simp[R.len],λj q f=>?_,λj q f=>?_,λj k q q' b f f' g g'=>?_,?_⟩
 ·refine⟨?_,(R.rb.ios b z).2⟩;rw[aL (λy=>by subst y;exact hio z)];exact(R.rb.ios b z).1
 ·rcases get_set f with⟨f1,f2⟩|⟨f1,f2⟩
  ·cases f2
  ·exact R.sh j q f2
 ·rcases get_set f with⟨f1,f2⟩|⟨f1,f2⟩
  ·cases f2
  ·obtain⟨b,g1,g2,g3,g4⟩:=R.ow j q f2;have nb:b≠a:=λz=>by subst z;exact d.ow i j q b ha f2 g1
   refine⟨b,g1,?_,g3,g4⟩;cases q with
   |lst l=>obtain⟨xs,k1,k2⟩:=g2;exact⟨xs,by rw[aL nb];exact k1,k2⟩
   |dk l=>obtain⟨xs,k1,k2⟩:=g2;exact⟨xs,by rw[aL nb];exact k1,k2⟩
   |dt l=>obtain⟨xs,k1,k2⟩:=g2;exact⟨xs,by rw[aL nb];exact k1,k2⟩
   |_=>exact g2.elim
 ·rcases get_set f with⟨f1,f2⟩|⟨f1,f2⟩
  ·cases f2
  ·rcases get_set f' with⟨f1',f2'⟩|⟨f1',f2'⟩
   ·cases f2'
   ·exact R.dis j k q q' b f2 f2' g g'
 ·have up:∀ b o,H b=some o->(∀ ys,o≠.tup ys)->∃ o',upd H a ob b=some o'/\∀ ys,o'≠.tup ys:=λb o q z=>by
   by_cases h:b=a
   ·subst h;exact⟨ob,aP,ho⟩
   ·exact⟨o,by rw[aL h];exact q,z⟩
  refine⟨λj b=>if j=i then S' b else P j b,λj b z=>?_,λj k b a1 a2=>?_,λj k q b z f g=>?_,λj q f=>?_⟩
  ·by_cases hj:j=i
   ·simp only[hj,Zbw] at z;rcases hS b z with w|⟨w1,⟨o,w2,w2'⟩,w3,w4,_⟩
    ·obtain⟨k1,⟨o,k2,k3⟩,k4⟩:=d.own i b w;exact⟨k1,up b o k2 k3,k4⟩
    ·exact⟨w1,up b o w2 w2',w3,w4⟩
   ·simp only[hj,Zba] at z;obtain⟨k1,⟨o,k2,k3⟩,k4⟩:=d.own j b z;exact⟨k1,up b o k2 k3,k4⟩
  ·by_cases hj:j=i<;>by_cases hk:k=i
   ·rw[hj,hk]
   ·simp only[hj,hk,Zbw,Zba] at a1 a2;rcases hS b a1 with w|⟨_,_,_,_,w,_⟩
    ·rw[hj];exact d.dis i k b w a2
    ·exact absurd a2 (w k)
   ·simp only[hj,hk,Zbw,Zba] at a1 a2;rcases hS b a2 with w|⟨_,_,_,_,w,_⟩
    ·rw[hk];exact d.dis j i b a1 w
    ·exact absurd a1 (w j)
   ·simp only[hj,hk,Zba] at a1 a2;exact d.dis j k b a1 a2
  ·rcases get_set f with⟨f1,f2⟩|⟨f1,f2⟩
   ·cases f2
   ·by_cases hj:j=i
    ·simp only[hj,Zbw] at z;rcases hS b z with w|⟨_,_,_,_,_,w⟩
     ·exact d.ow i k q b w f2 g
     ·exact w k q f2 g
    ·simp only[hj,Zba] at z;exact d.ow j k q b z f2 g
  ·rcases get_set f with⟨f1,f2⟩|⟨f1,f2⟩
   ·subst f1;cases f2;refine⟨v,e1,?_⟩;simp only[Zbw];exact hd
   ·obtain⟨w,g1,g2⟩:=d.dp j q f2;refine⟨w,g1,?_⟩;simp only[Zbj f1,Zba];refine g2.up (aU.refl _) (λb o z q=>?_) λb ys q=>?_
    ·rw[aL (λy=>by subst y;exact f1 (d.dis i j b ha z))];exact q
    ·rw[aL (λy=>by subst y;rw[c2] at q;cases q;exact c3 ys rfl)];exact q
end
section
variable{K:Frag}{C:Cg}{te tb:TE}{F F1 F2 H H1 H2:Hp}{O:St}{Z:Rho}{D:Ends}{u:TS}{f:Sn}{o:Out}{S:Addr->Prop}{v:V}{p:PV}
theorem Dp.dh{l:List PV}(d:Dp K F H S v (.tup l))(hl:(PV.tup l).still=false):∃ (T:Nat->Addr->Prop) (a:Addr) (xs:List V),v=.ref a/\H a=some (.tup xs)/\(∀ j b,T j b->S b)/\Dps K F H T xs l:=by
 cases d with
 |fr h st=>rw[hl] at st;cases st
 |tup h hs dj hl hr=>exact⟨_,_,_,rfl,h,hs,hl,dj,hr⟩
theorem Dps.put{T:Nat->Addr->Prop}{xs:List V}{l:List PV}(h:Dps K F H T xs l){j:Nat}{b:Addr}{ob:HO}(hb:T j b)(nt:∀ ys,H b≠some (.tup ys)){x:V}{q:PV}(ex:xs[j]?=some x)(d:Dp K F (upd H b ob) (T j) x q):Dps K F (upd H b ob) T xs (l.set j q):=by
 refine⟨by simp[h.1],h.2.1,λk y r e1 e2=>?_⟩
 rcases get_set e2 with⟨f1,f2⟩|⟨f1,f2⟩
 ·subst f1;subst f2;rw[ex] at e1;cases e1;exact d
 ·exact(h.2.2 k y r e1 f2).up (aU.refl _) (λc o z e=>by rw[aL (λw=>by subst w;exact f1 (h.2.1 j k c hb z))];exact e) λc ys e=>by rw[aL (λw=>by subst w;exact nt ys e)];exact e
def JW(i:Nat)(fi fe:Fn PV):Sn:=λZ=>match rH i Z with
 |some (.lst l)=>gw (fi Z) λk=>match k with
  |.int k=>match ixN l.length k with
   |some j=>match l[j]? with
    |some (.lst row)=>gw (fe Z) λq=>if q.still=true/\row.length<sizeLine then some (.nx (Z.set i (some (.dp (.lst (l.set j (.lst (row++[q])))))))) else none
    |_=>none
   |none=>none
  |_=>none
 |some (.tup l)=>if(PV.tup l).still=false then gw (fi Z) λk=>match k with
  |.int k=>match ixN l.length k with
   |some j=>match l[j]? with
    |some (.lst row)=>gw (fe Z) λq=>if q.still=true/\row.length<sizeLine/\(PV.tup (l.set j (.lst (row++[q])))).still=false then some (.nx (Z.set i (some (.dp (.tup (l.set j (.lst (row++[q])))))))) else none
    |_=>none
   |none=>none
  |_=>none else none
 |_=>none
theorem Dp.snoc{b:Addr}{T:Nat->Addr->Prop}{ys:List V}{row:List PV}{q:PV}(e:H b=some (.lst ys))(sb:S b)(ht:∀ j c,T j c->S c/\c≠b)(d:Dps K F H T ys row)(r:Rep K F v q)(st:q.still=true):Dp K F (upd H b (.lst (ys++[v]))) S (.ref b) (.lst (row++[q])):=by
 refine .lst (S:=λj c=>j<ys.length/\T j c) aP sb (λj c z=>ht j c z.2) (λi j c z z'=>d.2.1 i j c z.2 z'.2) (by simp[d.1]) λj x p e1 e2=>?_
 by_cases hj:j<ys.length
 ·rw[Zak hj] at e1;rw[Zak (by rw[<-d.1];exact hj)] at e2
  refine((d.2.2 j x p e1 e2).up (aU.refl _) (λc o z e=>by rw[aL (ht j c z).2];exact e) λc zs e'=>?_).mono λc z=>⟨hj,z⟩
  rw[aL (λw=>by subst w;rw[e] at e';cases e')];exact e'
 ·rw[Zas (by omega)] at e1
  rw[Zas (by rw[<-d.1];omega)] at e2
  have ej:j=ys.length:=by
   have:=cL e1;simp at this;omega
  rw[ej,Zcy] at e1;rw[ej,d.1,Zcy] at e2;cases e1;cases e2;exact .fr r st
theorem Wy{i:Nat}{fi fe:Fn PV}(hi:MJ K C (aF K) tb fi)(h:MJ K C (aF K) te fe):MS K C (Ax (tBM K "list" wu (tOp (rIx K) (mj i) tb) (jU te uX))) (JW i fi fe):=by
 intro F H O Z D o R e P;unfold JW at e;split at e
 ·rename_i l hl;obtain⟨S,v,e1,_,_,_⟩:=R.Ug (du hl);refine⟨v,e1,hi.u9 R e P λk w F1 H1 hk u a=>?_⟩;split at hk
  case h_2=>cases hk
  rename_i k;cases Rep.bD a;split at hk
  case h_2=>cases hk
  rename_i j hj;split at hk
  case h_2=>cases hk
  rename_i row hrow;obtain⟨P1,d1⟩:=(R.up u).dd;obtain⟨v',e1',dp1⟩:=d1.dp i _ (du hl);rw[e1] at e1';cases e1';obtain⟨T,a,xs,rfl,ha,sa,ht,ds⟩:=dp1.cH;have hjx:j<xs.length:=by rw[ds.1];exact cL hrow
  obtain⟨x,ex⟩:∃ x,xs[j]?=some x:=⟨_,Zae hjx⟩;obtain⟨T2,b,ys,rfl,hb,sb,ht2,ds2⟩:=(ds.2.2 j x _ ex hrow).cH;refine .inl ⟨a,xs,k,.ref b,rfl,rfl,SqL.of ha,by unfold atI;rw[ds.1,hj];exact ex,tyL hb,?_⟩
  refine h.u9 (R.up u) hk (P.up u.ff) λq w F2 H2 hk2 u2 rw'=>?_;split at hk2
  case isFalse=>cases hk2
  rename_i hq;cases hk2;have hb2:=u2.hh _ _ hb;refine⟨b,ys,w,rfl,rfl,hb2,by rw[ds2.1];exact hq.2,?_⟩
  have R2:=R.up (u.trans u2);have d2:RD K C.toCf F2 H2 O Z P1:=d1.up u2;have pb:P1 i b:=(ht j b sb).1;have dsx:Dps K F2 H2 T xs l:=⟨ds.1,ds.2.1,λk y r c1 c2=>(ds.2.2 k y r c1 c2).stay u2⟩;have ds2x:Dps K F2 H2 T2 ys row:=⟨ds2.1,ds2.2.1,λk y r c1 c2=>(ds2.2.2 k y r c1 c2).stay u2⟩;have nt:∀ zs,H2 b≠some (.tup zs):=λzs z=>by rw[hb2] at z;cases z
  have nab:a≠b:=λz=>(ht j b sb).2 z.symm;refine P F2 _ O (u.trans u2).ff (R2.Cp d2 (du hl) e1 pb (λys z=>by cases z) (S':=P1 i) ?_ λc z=>.inl z)
  have pu:=dsx.put (q:=.lst (row++[q])) (ob:=.lst (ys++[w])) sb nt ex (Dp.snoc hb2 sb ht2 ds2x rw' hq.1);exact .lst (by rw[aL nab];exact u2.hh _ _ ha) sa ht pu.2.1 pu.1 pu.2.2
 ·rename_i l hl;split at e
  case isFalse=>cases e
  rename_i hst;obtain⟨S,v,e1,_,_,_⟩:=R.Ug (du hl);refine⟨v,e1,hi.u9 R e P λk w F1 H1 hk u a=>?_⟩;split at hk
  case h_2=>cases hk
  rename_i k;cases Rep.bD a;split at hk
  case h_2=>cases hk
  rename_i j hj;split at hk
  case h_2=>cases hk
  rename_i row hrow;obtain⟨P1,d1⟩:=(R.up u).dd;obtain⟨v',e1',dp1⟩:=d1.dp i _ (du hl);rw[e1] at e1';cases e1';obtain⟨T,a,xs,rfl,ha,ht,ds⟩:=dp1.dh hst;have hjx:j<xs.length:=by rw[ds.1];exact cL hrow
  obtain⟨x,ex⟩:∃ x,xs[j]?=some x:=⟨_,Zae hjx⟩;obtain⟨T2,b,ys,rfl,hb,sb,ht2,ds2⟩:=(ds.2.2 j x _ ex hrow).cH;refine .inr (.inl ⟨a,xs,k,.ref b,rfl,rfl,SqT.of ha,by unfold atI;rw[ds.1,hj];exact ex,tyL hb,?_⟩)
  refine h.u9 (R.up u) hk (P.up u.ff) λq w F2 H2 hk2 u2 rw'=>?_;split at hk2
  case isFalse=>cases hk2
  rename_i hq;cases hk2;have hb2:=u2.hh _ _ hb;refine⟨b,ys,w,rfl,rfl,hb2,by rw[ds2.1];exact hq.2.1,?_⟩
  have R2:=R.up (u.trans u2);have d2:RD K C.toCf F2 H2 O Z P1:=d1.up u2;have pb:P1 i b:=ht j b sb;have dsx:Dps K F2 H2 T xs l:=⟨ds.1,ds.2.1,λk y r c1 c2=>(ds.2.2 k y r c1 c2).stay u2⟩;have ds2x:Dps K F2 H2 T2 ys row:=⟨ds2.1,ds2.2.1,λk y r c1 c2=>(ds2.2.2 k y r c1 c2).stay u2⟩;have nt:∀ zs,H2 b≠some (.tup zs):=λzs z=>by rw[hb2] at z;cases z
  have nab:a≠b:=λz=>by subst z;rw[u2.hh _ _ ha] at hb2;cases hb2
  refine P F2 _ O (u.trans u2).ff (R2.Cp d2 (du hl) e1 pb (λys z=>by cases z) (S':=P1 i) ?_ λc z=>.inl z)
  have pu:=dsx.put (q:=.lst (row++[q])) (ob:=.lst (ys++[w])) sb nt ex (Dp.snoc hb2 sb ht2 ds2x rw' hq.1);exact .tup (by rw[aL nab];exact u2.hh _ _ ha) ht pu.2.1 pu.1 pu.2.2
 ·cases e
def JX(i:Nat)(fe:Fn PV):Sn:=λZ=>match rH i Z with
 |some (.lst l)=>gw (fe Z) λq=>if l.length<sizeLine then some (.nx (Z.set i (some (.dp (.lst (l++[q])))))) else none
 |_=>none
theorem Wz{i:Nat}{fe:Fn PV}(h:MD K C te fe):MS K C (Ax (tBM K "list" wu (mj i) (jU te uX))) (JX i fe):=by
 intro F H O Z D o R e P;unfold JX at e;split at e
 ·rename_i l hl;obtain⟨P0,d0⟩:=R.dd;obtain⟨v0,e1,dp0⟩:=d0.dp i _ (du hl);obtain⟨T,a,xs,rfl,ha,sa,ht,ds⟩:=dp0.cH;refine⟨_,e1,tyL ha,?_⟩;rcases dg e with⟨z,e2,rfl⟩|⟨q,e2,hk⟩
  ·exact h F H O Z _ _ R e2 P
  split at hk
  case isFalse=>cases hk
  rename_i hlen;cases hk;refine h F H O Z _ _ R e2 λw F1 H1 S u d n=>?_;have ha1:=u.hh _ _ ha;refine⟨a,xs,w,rfl,rfl,ha1,by rw[ds.1];exact hlen,?_⟩
  have R1:=R.up u;have d1:RD K C.toCf F1 H1 O Z P0:=d0.up u;have na:∀ b,S b->b≠a:=λb z y=>by subst y;have:=(n b z).1;rw[ha] at this;cases this
  have nP:∀ b,S b->∀ j,¬P0 j b:=λb z j y=>by obtain⟨_,⟨o,c,_⟩,_⟩:=d0.own j b y;rw[(n b z).1] at c;cases c
  refine P F1 _ O u.ff (R1.Cp d1 (du hl) e1 sa (λys z=>by cases z) (S':=λb=>P0 i b\/S b) ?_ λb z=>?_)
  ·refine .lst (S:=λj b=>if j=xs.length then S b else j<xs.length/\T j b) aP (.inl sa) (λj b z=>?_) (λj k b z z'=>?_) (by simp[ds.1]) λj x p c1 c2=>?_
   ·by_cases hj:j=xs.length
    ·simp only[hj,Zbw] at z;exact⟨.inr z,na b z⟩
    ·simp only[hj,Zba] at z;exact⟨.inl (ht j b z.2).1,(ht j b z.2).2⟩
   ·by_cases hj:j=xs.length<;>by_cases hk:k=xs.length
    ·rw[hj,hk]
    ·simp only[hj,hk,Zbw,Zba] at z z';exact absurd (ht k b z'.2).1 (nP b z i)
    ·simp only[hj,hk,Zbw,Zba] at z z';exact absurd (ht j b z.2).1 (nP b z' i)
    ·simp only[hj,hk,Zba] at z z';exact ds.2.1 j k b z.2 z'.2
   ·have tups:∀ b zs,H1 b=some (.tup zs)->upd H1 a (.lst (xs++[w])) b=some (.tup zs):=λb zs c=>by
     rw[aL (λy=>by subst y;rw[ha1] at c;cases c)];exact c
    by_cases hj:j<xs.length
    ·rw[Zak hj] at c1;rw[Zak (by rw[<-ds.1];exact hj)] at c2
     simp only[show ¬j=xs.length by omega,Zba]
     exact(((ds.2.2 j x p c1 c2).stay u).up (aU.refl _) (λb o z c=>by rw[aL (ht j b z).2];exact c) tups).mono λb z=>⟨hj,z⟩
    ·rw[Zas (by omega)] at c1
     rw[Zas (by rw[<-ds.1];omega)] at c2
     have ej:j=xs.length:=by
      have:=cL c1;simp at this;omega
     rw[ej,Zcy] at c1;rw[ej,ds.1,Zcy] at c2;cases c1;cases c2;simp only[ej,Zbw];exact d.up (aU.refl _) (λb o z c=>by rw[aL (na b z)];exact c) tups
  ·rcases z with z|z
   ·exact .inl z
   ·refine .inr ⟨(n b z).2.1,(n b z).2.2,(d0.own i a sa).2.2.1,R.rb.wK (n b z).1,nP b z,λj q f=>?_⟩;exact R.apart (n b z).1 j q f
 ·cases e
end
def yH:Option Out->Option (Res PV)
 |some (.rd p)=>some (.ok p)
 |some (.ex z)=>some (.ex z)
 |_=>none
section
variable{K:Frag}{XR:Hp->Value->Option Addr->PV->Prop}{N:List Str}{vs:List V}{H:Hp}{Q:VK}{E:XK}{t:TS}{b:Sn}{m:List PV->Option (Res PV)}
theorem wU{k n:Nat}(hk:N.length=k+n)(hm:∀ ps r,m ps=some r->ps.length=k/\yH (b (startR ps n))=some r)(h:spD K XR0 m vs H Q E)(hS:∀ (io:Addr->Prop) (H0 F0:Hp),(∀ a,¬io a)->MS K (C0 io H0 F0) t b) :
  t { nx:=λ_ H'=>Q .non H',rt:=Q } (start N vs) H:=by
 obtain⟨ps,F,r,s,rp,e,P⟩:=h;obtain⟨hl,e⟩:=hm ps r e;have R:=Bx (E:=E0) (N:=N) (n:=n) s rp (by rw[rp.1,hl];exact hk)
 have up:∀ {F' H':Hp},aU F F'->RB ⟨λ_=>False,True,H,F,E0⟩ F' H'->Up F H F' H':=λs' rb=>⟨s',λc o q=>rb.keep c o q id,rb.new,rb.sub⟩;have M:=hS (λ_=>False) H F (λ_ h=>h);cases ho:b (startR ps n) with
 |none=>rw[ho] at e;cases e
 |some o=>
  rw[ho] at e;refine M F H _ _ _ o R ho ?_;cases o with
  |rd p=>cases e;exact λv F' H' S s' rb d n=>P v F' H' S (up s' rb) d λb q=>⟨(n b q).2.2,(n b q).1,(n b q).2.1⟩
  |ex z=>exact λ_ _ _ _ _ _ x=>x.elim
  |nx Z=>cases e
  |rt p=>cases e
  |ro p=>cases e
  |bk Z=>cases e
  |ct Z=>cases e
theorem wV(h:spD K XR m vs H Q E){k:Nat}(hm:∀ ps r,m ps=some r->ps.length=k):vs.length=k:=by
 obtain⟨ps,F,r,s,rp,e,P⟩:=h;rw[rp.1];exact hm ps r e
end
end L2.MP
namespace L2
open PySem PySem.Spec PyProof PyProof.Rows
def Itz(K:Frag)(a b:Addr):It:=
 ⟨λi H=>∃ xs ys x y,SqL K H a xs/\SqL K H b ys/\xs[i]?=some x/\ys[i]?=some y,
  λi H x H'=>∃ p u v,H p=none/\x=.ref p/\H'=upd H p (.tup [u,v])/\(∀ xs,SqL K H a xs->xs[i]?=some u)/\∀ ys,SqL K H b ys->ys[i]?=some v,
  λi H=>∃ xs ys,SqL K H a xs/\SqL K H b ys/\(xs.length<=i\/ys.length<=i)⟩
theorem Uh{P:Program}{w:World}{K:Frag}{elts:List Expr}{x1:Nat}{pos:Pos}(a b z TI TO i1 i2:Addr)(D:ZipApart z TI TO i1 i2 a b) :
  Turn P w K (.Tuple elts x1 pos) (Itz K a b) [z,TO,i1,i2,TI] z (λi h=>IsZip h z TI TO .none/\IsPair h TI (.ref i1) (.ref i2)/\(∃ c d,IsPair h TO c d)/\h.IsListIter i1 a i/\h.IsListIter i2 b i) where
 mem:=by simp
 obj:=λi h st c hc=>by
  obtain⟨hz,hTI,⟨c',d',hTO⟩,⟨o1,e1,_,d1⟩,⟨o2,e2,_,d2⟩⟩:=st;simp only[ZaA,ZbB,or_false] at hc;rcases hc with rfl|rfl|rfl|rfl|rfl
  ·exact⟨_,hz,λv q=>by cases q⟩
  ·exact⟨_,hTO,λv q=>by cases q⟩
  ·exact⟨o1,e1,λv q=>by rw[d1] at q;cases q⟩
  ·exact⟨o2,e2,λv q=>by rw[d2] at q;cases q⟩
  ·exact⟨_,hTI,λv q=>by cases q⟩
 keep:=λi h h' st k=>by
  obtain⟨hz,hTI,⟨c',d',hTO⟩,h1,h2⟩:=st;exact⟨k z (by simp) _ hz,k TI (by simp) _ hTI,⟨c',d',k TO (by simp) _ hTO⟩,h1.at λo q=>k i1 (by simp) o q,h2.at λo q=>k i2 (by simp) o q⟩
 item:=by
  intro X hP hw hK hc i pins s O H E I hf st hg;subst hP hw hK;obtain⟨xs,ys,x,y,hq,hq',hx,hy⟩:=hg;obtain⟨its,rv,p,_⟩:=I.list hq;obtain⟨its',rv',p',_⟩:=I.list hq';obtain⟨u,hu,ru⟩:=rv.get hx;obtain⟨u',hu',ru'⟩:=rv'.get hy;obtain⟨hz,hTI,⟨c',d',hTO⟩,h1,h2⟩:=st;refine wpAny_pyNext_zip_item D hz hTI hTO h1 h2 p.isList p'.isList (by rw[Zbg];exact hu) (by rw[Zbg];exact hu') λh3 z3 t3 i3 j3 n3 sz3 k3=>?_
  refine⟨_,rfl,wpAny_letOwnedTupleGo_zip z3 λh4 z4 s4=>?_⟩;have zlt:z<s.heap.objs.size:=Zat hz;have hT2:IsPair h4 s.heap.objs.size u u':=(s4.2 _ (Zb5 zlt)).trans n3;have flt:∀ b'∈[z,TO,i1,i2,TI],b'<s.heap.objs.size:=λb' hb=>by
   obtain⟨o1,e1,_⟩:=h1;obtain⟨o2,e2,_⟩:=h2;simp only[ZaA,ZbB,or_false] at hb;rcases hb with rfl|rfl|rfl|rfl|rfl
   ·exact zlt
   ·exact Zat hTO
   ·exact Zat e1
   ·exact Zat e2
   ·exact Zat hTI
  refine⟨.ref s.heap.objs.size,upd H s.heap.objs.size (.tup [x,y]),I.sZ (ch:=[z,TO,i1,i2,TI]) (λb' o hb q=>?_) hf (Zal _) ⟨by show 2<=sizeLine;decide,[u,u'],.cons ru (.cons ru' .nil),gA.mk hT2⟩,rfl,⟨_,x,y,I.hok.fresh (Zal _),rfl,rfl,λzs hz'=>by rw[I.qW hz' hq];exact hx,λzs hz'=>by rw[I.qW hz' hq'];exact hy⟩,⟨z4,?_,⟨u,u',(s4.2 _ D.TOz).trans t3⟩,i3.at λo q=>(s4.2 i1 D.i1z).trans q,j3.at λo q=>(s4.2 i2 D.i2z).trans q⟩,λb' hb=>?_⟩
  ·have q1:b'≠z:=λe=>hb (by simp[e])
   have q2:b'≠TO:=λe=>hb (by simp[e])
   have q3:b'≠i1:=λe=>hb (by simp[e])
   have q4:b'≠i2:=λe=>hb (by simp[e])
   exact(s4.2 b' q1).trans (k3 b' o q1 q2 q3 q4 q)
  ·exact(s4.2 _ D.TIz).trans (k3 TI _ D.TIz D.TITO D.TIi1 D.TIi2 hTI)
  ·rw[aL (ZaE (flt b' hb))];exact(hf b' hb).1
 done:=by
  intro X hP hw hK hc i pins s O H E I hf st hg;subst hP hw hK;obtain⟨xs,ys,hq,hq',hx⟩:=hg;obtain⟨its,rv,p,_⟩:=I.list hq;obtain⟨its',rv',p',_⟩:=I.list hq';obtain⟨hz,hTI,⟨c',d',hTO⟩,h1,h2⟩:=st;have ln:=rv.length;have ln':=rv'.length;refine wpAny_pyNext_zip_end (I.ok.hd hc) D hz hTI hTO h1 h2 p.isList p'.isList (hx.imp (λq=>by rw[Zbg];exact ZbP.mpr (by lia)) λq=>by rw[Zbg];exact ZbP.mpr (by lia)) λh' k=>⟨rfl,?_⟩
  exact I.sY (t':=s.toks) (ch:=[z,TO,i1,i2,TI]) (λb' o hb q=>k b' o (λe=>hb (by simp[e])) (λe=>hb (by simp[e])) (λe=>hb (by simp[e])) (λe=>hb (by simp[e])) q) hf
 self:=λA i s Q E st h=>wpAny_pyIter_zip st.1 h
def aaq(K:Frag)(ta:TA):TI:=λO H R=>ta O H λvs H1=>∃ a b,vs=[.ref a,.ref b]/\(∃ xs,SqL K H1 a xs)/\(∃ ys,SqL K H1 b ys)/\R (Itz K a b) H1
theorem Zc{X:Cx}{l m:Expr}{ta:TA}{elts:List Expr}{x1:Nat}{tpos p pos:Pos}(hg:Gl X "zip")(hm:X.mg "zip"=none)(ha:PA X [l,m] ta)(hs:starEach [l,m] X.env=(false,eval l X.env)::starEach [m] X.env:=by rfl)(hs2:starEach [m] X.env=[(false,eval m X.env)]:=by rfl) :
  PI X (.Tuple elts x1 tpos) (.Call (.Name "zip" p) [l,m] [] pos) (aaq X.K ta):=by
 intro pins s O H R I h;refine Call_ (uU I hg hm boot_zip (Zbo (thn (ha pos pins s O H _ I h) ?_) hs (by rw[hs2];rfl)))
 rintro us s1 ⟨vs,H1,I1,r1,q1⟩;obtain⟨a,b,e,⟨xs,hq⟩,⟨ys,hq'⟩,q⟩:=q1;subst e;cases r1 with
 |cons r rr=>
  cases rr with
  |cons r' rr=>
   cases rr;cases r;cases r';obtain⟨its,rv,p,_⟩:=I1.list hq;obtain⟨its',rv',p',_⟩:=I1.list hq';have la:a<s1.heap.objs.size:=by obtain⟨o,e,_⟩:=p.isList;exact Zat e
   have lb:b<s1.heap.objs.size:=by obtain⟨o,e,_⟩:=p'.isList;exact Zat e
   refine call_zip_2 p.isList p'.isList λh1 hz hTI hTO hi1 hi2 hsz hk=>?_;refine wpAny_pyIter_zip hz ?_;have I2:Inv X pins O H1 { s1 with heap:=h1 }:=I1.kept (t':=s1.toks) hk;refine⟨_,[s1.heap.objs.size+4,s1.heap.objs.size+3,s1.heap.objs.size,s1.heap.objs.size+1,s1.heap.objs.size+2],_,_,H1,rfl,I2,Uh a b _ _ _ _ _ (zipApart_new la lb),⟨hz,hTI,⟨_,_,hTO⟩,hi1,hi2⟩,λc hc=>?_,q⟩;have:s1.heap.objs.size<=c:=by
    simp only[ZaA,ZbB,or_false] at hc;rcases hc with rfl|rfl|rfl|rfl|rfl
    ·exact ZcA _ 4
    ·exact ZcA _ 3
    ·exact Zal _
    ·exact ZcA _ 1
    ·exact ZcA _ 2
   exact I1.Ej this (I1.hok.fresh this)
namespace MP
def M8(l m:List PV):List PV:=(l.zip m).map λc=>.tup [c.1,c.2]
def Ui:List PV->Option (Res (List PV))
 |[.lst l,.lst m]=>some (.ok (M8 l m))
 |_=>none
section
variable{K:Frag}{C:Cg}{tA:TA}
theorem Zd{f:Fn (List PV)}(h:MA K C tA f):MI K C (aaq K tA) (m1 Ui f):=by
 intro F H O Z R' r R e P;refine h.run R e P λl xs F1 H1 hk u a=>?_;have inv:∃ l' m,l=[.lst l',.lst m]:=by
  clear P u a
  rcases l with _|⟨x,_|⟨y,_|⟨z,l⟩⟩⟩<;>first|exact noS hk|(cases x<;>first|exact noS hk|(cases y<;>first|exact noS hk|exact⟨_,_,rfl⟩))
 obtain⟨l,m,rfl⟩:=inv;cases hk;obtain⟨v,ys,rfl,r1,r2⟩:=a.dD;obtain⟨v',ys',rfl,r2',r3⟩:=r2.dD;cases r3.jD;obtain⟨b,xs,rfl,h1,r1⟩:=Rep.cH r1;obtain⟨b',xs',rfl,h2,r2⟩:=Rep.cH r2';have hl:(M8 l m).length=min l.length m.length:=by simp[M8]
 refine⟨b,b',rfl,⟨xs,u.fh.seq h1⟩,⟨xs',u.fh.seq h2⟩,P _ F1 H1 u ⟨λF' H' s s'=>?_,λi F' H' hi s s'=>?_,λi F' H' x H'' hi s s' y=>?_⟩⟩
 ·refine⟨xs,xs',(s.trans s').seq h1,(s.trans s').seq h2,?_⟩;rw[hl,r1.1,r2.1];lia
 ·rw[hl] at hi;exact⟨xs,xs',xs[i]'(by rw[r1.1];lia),xs'[i]'(by rw[r2.1];lia),(s.trans s').seq h1,(s.trans s').seq h2,by simp,by simp⟩
 ·obtain⟨p,y,y',hp,rfl,rfl,hy,hy'⟩:=y;have e:=hy xs ((s.trans s').seq h1);have e':=hy' xs' ((s.trans s').seq h2);obtain⟨q,e2,rq⟩:=r1.got e;obtain⟨q',e2',rq'⟩:=r2.got e';have un:=Up.new (o:=.tup [y,y']) s' hp;refine⟨_,.tup [q,q'],un,?_,.tup aP rfl λj x p hx hp'=>?_⟩
  ·unfold M8;rw[Zad,show(l.zip m)[i]?=some (q,q') from List.getElem?_zip_eq_some.mpr ⟨e2,e2'⟩];rfl
  ·match j with
   |0=>simp at hx hp';subst hx hp';exact rq.up (s.trans un.ff)
   |1=>simp at hx hp';subst hx hp';exact rq'.up (s.trans un.ff)
   |j+2=>simp at hx
end
end MP
def lQ:HO->Prop
 |.dK _=>True
 |.dT _=>True
 |_=>False
section
variable{X:Cx}{pins:List (Addr×Obj)}{O:St}{H:Hp}{s:Shared}{a:Addr}{u:HO}{raw:Obj}
theorem lQ.mut(hu:lQ u)(e:H a=some u):Mut (H a):=by
 rw[e];cases u<;>first|trivial|exact hu.elim
theorem Ze(I:Inv X pins O H s)(e:H a=some u)(hu:lQ u):∃ raw,s.heap.get? a=some raw:=by
 have:=I.hok a u e;cases u with
 |dK kvs=>obtain⟨_,_,_,_,o,es,ep,h1,_⟩:=this;exact⟨o,h1⟩
 |dT kvs=>obtain⟨_,_,_,_,o,es,ep,h1,_⟩:=this;exact⟨o,h1⟩
 |_=>exact hu.elim
theorem Inv.hold(I:Inv X pins O H s)(e:H a=some u)(hu:lQ u):∃ raw,s.heap.get? a=some raw/\Inv X pins O (upd H a (.frz raw u)) s:=by
 obtain⟨raw,hr⟩:=Ze I e hu;refine⟨raw,hr,I.write (t':=s.toks) (h':=s.heap) (hu.mut e) (.inl rfl) (λb o _ q=>q) ⟨raw,hr⟩ ⟨hr,?_⟩⟩;refine(I.hok a u e).stay (λb o _ q=>q) (λb q=>?_) λb xs q=>?_
 ·rw[aL (λz=>by subst z;rw[e] at q;cases q;exact hu)];exact q
 ·rw[aL (λz=>by subst z;rw[e] at q;cases q;exact hu)];exact q
theorem Inv.loose(I:Inv X pins O H s)(e:H a=some (.frz raw u))(hu:lQ u)(h0:∀ o v,X.H₀ a≠some (.frz o v)):Inv X pins O (upd H a u) s where
 ok:=I.ok
 os:=I.os
 bare:=I.bare
 base:={
  keep:=I.base.keep
  slot:=I.base.slot
  free:=λb o q n hx=>by
   have:=I.base.free b o q n hx;rw[aL (λz=>by subst z;rw[e] at this;cases this)];exact this
  there:=I.base.there
  tups:=λb xs q=>by
   have:=I.base.tups b xs q;rw[aL (λz=>by subst z;rw[e] at this;cases this)];exact this
  frzs:=λb o v q=>by
   rw[aL (λz=>by subst z;exact h0 o v q)];exact I.base.frzs b o v q
  tbls:=λb ps q=>by
   obtain⟨more,r⟩:=I.base.tbls b ps q;exact⟨more,by rw[aL (λz=>by subst z;rw[e] at r;cases r)];exact r⟩ }
 loc:=I.loc
 cell:=I.cell
 free:=by rw[aL (λz=>by have:=I.free;rw[z,e] at this;cases this)];exact I.free
 freeC:=λx c q=>by
  have:=I.freeC x c q;rw[aL (λz=>by subst z;rw[e] at this;cases this)];exact this
 pin:=λp hp=>by
  obtain⟨p1,p2,p3⟩:=I.pin p hp;exact⟨p1,by rw[aL (λz=>by rw[z,e] at p2;cases p2)];exact p2,p3⟩
 hok:=λb o q=>by
  have ho:∀ c y,H c=some (.own y)->upd H a u c=some (.own y):=λc y r=>by rw[aL (λz=>by subst z;rw[e] at r;cases r)];exact r
  have ht:∀ c xs,H c=some (.tup xs)->upd H a u c=some (.tup xs):=λc xs r=>by rw[aL (λz=>by subst z;rw[e] at r;cases r)];exact r
  by_cases hb:b=a
  ·subst hb;rw[aP] at q;cases q;exact(I.hok b _ e).2.stay (λ_ _ _ q=>q) (λc r=>ho c b r) ht
  ·rw[aL hb] at q;exact(I.hok b o q).stay (λ_ _ _ q=>q) (λc r=>ho c b r) ht
 len:=I.len
def Ends.loose(D:Ends)(a:Addr)(raw:Obj)(u:HO):Ends where
 nx:=λO H=>H a=some (.frz raw u)/\D.nx O (upd H a u)
 bk:=λO H=>H a=some (.frz raw u)/\D.bk O (upd H a u)
 ct:=λO H=>H a=some (.frz raw u)/\D.ct O (upd H a u)
 rt:=λv H=>H a=some (.frz raw u)/\D.rt v (upd H a u)
def Uj(i:Nat)(t:TS):TS:=λD O H=>∃ a u,O[i]?=some (some (.ref a))/\lQ u/\(((∃ raw,H a=some (.frz raw u))/\t D O H)\/(H a=some u/\∀ raw,t (D.loose a raw u) O (upd H a (.frz raw u))))
theorem O7{st:Stmt}{t:TS}(i:Nat)(h:PS X st t):PS X st (Uj i t):=by
 intro pins s O H D I q;obtain⟨a,u,_,hu,⟨_,q⟩|⟨e,q⟩⟩:=q
 ·exact h pins s O H D I q
 ·have h0:∀ o v,X.H₀ a≠some (.frz o v):=λo v z=>by
   have:=I.base.frzs a o v z;rw[e] at this;cases this;exact hu
  obtain⟨raw,_,I2⟩:=I.hold e hu;refine thn (h pins s O _ _ I2 (q raw)) λf s' r=>?_;cases f with
  |next=>obtain⟨O',H',I',e',r⟩:=r;exact⟨O',_,I'.loose e' hu h0,r⟩
  |brk=>obtain⟨O',H',I',e',r⟩:=r;exact⟨O',_,I'.loose e' hu h0,r⟩
  |cont=>obtain⟨O',H',I',e',r⟩:=r;exact⟨O',_,I'.loose e' hu h0,r⟩
  |ret w=>obtain⟨v,O',H',I',rv,e',r⟩:=r;exact⟨v,O',_,I'.loose e' hu h0,rv,r⟩
def Uk(i:Nat)(t:TE):TE:=λO H Q=>∃ a u,O[i]?=some (some (.ref a))/\lQ u/\(((∃ raw,H a=some (.frz raw u))/\t O H Q)\/(H a=some u/\∀ raw,t O (upd H a (.frz raw u)) λv H'=>H' a=some (.frz raw u)/\Q v (upd H' a u)))
theorem tG{e:Expr}{t:TE}(i:Nat)(h:PE X e t):PE X e (Uk i t):=by
 intro pins s O H Q I q;obtain⟨a,u,_,hu,⟨_,q⟩|⟨e',q⟩⟩:=q
 ·exact h pins s O H Q I q
 ·have h0:∀ o v,X.H₀ a≠some (.frz o v):=λo v z=>by
   have:=I.base.frzs a o v z;rw[e'] at this;cases this;exact hu
  obtain⟨raw,_,I2⟩:=I.hold e' hu;refine thn (h pins s O _ _ I2 (q raw)) λw s' ⟨v,H',I',rv,e2,r⟩=>⟨v,_,I'.loose e2 hu h0,rv,r⟩
end
def Itd(a:Addr)(raw:Obj)(kvs:List (Key×V)):It:=
 ⟨λi H=>H a=some (.frz raw (.dK kvs))/\i<kvs.length,λi H x H'=>H'=H/\∃ kv,kvs[i]?=some kv/\x=kV kv.1,λi H=>H a=some (.frz raw (.dK kvs))/\i=kvs.length⟩
theorem Ht{P:Program}{w:World}{k:Key}{u:Value}(h:(bV P w).is k u=true):RelV (kV k) u:=by
 rcases dI h with⟨i,t,rfl,rfl⟩|⟨x,t,rfl,rfl⟩
 ·exact⟨t,rfl⟩
 ·exact⟨t,rfl⟩
theorem tH{P:Program}{w:World}{H:Hp}{h:Heap}{a:Addr}{raw:Obj}{kvs:List (Key×V)}(ok:HOk P w H h)(e:H a=some (.frz raw (.dK kvs))){es:Array DictEntry}{ep:Nat}(hd:raw.data=.dict es ep):(a==sysModules)=false/\∃ vs,KV kvs vs/\h.DictAt (bV P w) a vs ep:=by
 obtain⟨hr,_,hs,vs,kv,o,es',ep',h1,h2,h3,h4⟩:=(show dB P w H h a (.frz raw (.dK kvs)) from ok a _ e);rw[hr] at h1;cases h1;rw[hd] at h3;cases h3;exact⟨hs,vs,kv,raw,es,hr,h2,hd,h4⟩
theorem Ri{P:Program}{w:World}{K:Frag}{tg:Expr}(a it:Addr)(raw:Obj)(kvs:List (Key×V)){es:Array DictEntry}{ep:Nat}(hd:raw.data=.dict es ep) :
  Turn P w K tg (Itd a raw kvs) [it] it (λi h=>h.IsKeyIter it a i kvs.length ep) where
 mem:=by simp
 obj:=λi h st b hb=>by
  have e:b=it:=by simpa using hb
  subst e;obtain⟨o,e,c,d⟩:=st;exact⟨o,e,λv z=>by rw[d] at z;cases z⟩
 keep:=λi h h' st k=>st.at λo q=>k it (by simp) o q
 item:=by
  intro X hP hw hK hc i pins s O H E I hf st hg;subst hP hw hK;obtain⟨e,hi⟩:=hg;obtain⟨f0,f1,f2,f3,f4,f5⟩:=hf it (by simp)
  obtain⟨_,vs,kv,dd⟩:=tH I.hok e hd;have hl:=kv.length;have hne:a≠it:=λz=>by subst z;rw[e] at f0;cases f0
  have W:=Walks.dictKeys (prog:=X.prog) (w:=X.w) (A:=X.A) (knd:=bV X.prog X.w) (I.ok.hd hc) it a hne vs ep;refine W.item i s _ _ (by omega) ⟨by rw[<-hl];exact st,dd⟩ λv h' tk hv st' kk=>?_
  obtain⟨k,x,hx,hk⟩:=hv;have I1:Inv X pins O H { s with heap:=h',toks:=tk }:=I.turned (λb o hb e=>kk b o (by simpa using hb) e) f0 f1 f3 f4 f5
  obtain⟨o,eo,cc,dd'⟩:=id st'.1;obtain⟨p,hp⟩:∃ p,kvs[i]?=some p:=⟨_,Zae hi⟩;have ek:p.1=k:=by
   have h1:(kvs.map (·.1))[i]?=some p.1:=by rw[Zad,hp];rfl
   have h2:(vs.map (·.1))[i]?=some k:=by rw[Zad,hx];rfl
   rw[kv.keys,h2] at h1;exact(Zaf h1).symm
  refine⟨_,rfl,Fi (s:={ s with heap:=h',toks:=tk }) eo cc dd' (by decide) ⟨kV p.1,H,I1,by rw[ek];exact Ht hk,⟨rfl,p,hp,rfl⟩,by rw[hl];exact st'.1,λb hb=>(hf b hb).1⟩⟩
 done:=by
  intro X hP hw hK hc i pins s O H E I hf st hg;subst hP hw hK;obtain⟨e,hi⟩:=hg;obtain⟨f0,f1,f2,f3,f4,f5⟩:=hf it (by simp)
  obtain⟨_,vs,kv,dd⟩:=tH I.hok e hd;have hl:=kv.length;have hne:a≠it:=λz=>by subst z;rw[e] at f0;cases f0
  have W:=Walks.dictKeys (prog:=X.prog) (w:=X.w) (A:=X.A) (knd:=bV X.prog X.w) (I.ok.hd hc) it a hne vs ep;subst hi;refine W.done s _ _ ⟨by rw[<-hl];exact st,dd⟩ λh' tk kk=>⟨rfl,I.turned (λb o hb e=>kk b o (by simpa using hb) e) f0 f1 f3 f4 f5⟩
 self:=λA i s Q E st h=>wpAny_pyIter_keyiter st h
def XQ(tl:TE):TI:=λO H R=>tl O H λx H1=>∃ a raw kvs,x=.ref a/\H1 a=some (.frz raw (.dK kvs))/\R (Itd a raw kvs) H1
theorem O8{X:Cx}{tg l:Expr}{tl:TE}(hl:PE X l tl):PI X tg l (XQ tl):=by
 intro pins s O H R I h;refine thn (hl pins s O H _ I h) ?_;rintro v s1 ⟨x,H1,I1,r1,q1⟩;obtain⟨a,raw,kvs,e,ha,q⟩:=q1;subst e;cases r1;obtain⟨es,ep,hd⟩:∃ es ep,raw.data=.dict es ep:=by
  obtain⟨hr,_,hs,vs,kv,o,es',ep',h1,h2,h3,h4⟩:=(show dB X.prog X.w H1 s1.heap a (.frz raw (.dK kvs)) from I1.hok a _ ha);rw[hr] at h1;cases h1;exact⟨_,_,h3⟩
 obtain⟨hs,vs,kv,dd⟩:=tH I1.hok ha hd;refine wpAny_pyIter_dict hs dd ?_;refine⟨s1.heap.objs.size,[s1.heap.objs.size],_,_,H1,rfl,I1.kept (t':=s1.toks) λb o e=>Zai _ e,Ri a _ raw kvs hd,⟨_,Zar _ rfl,rfl,by rw[kv.length];rfl⟩,λb hb=>?_,q⟩
 have e:b=s1.heap.objs.size:=by simpa using hb
 subst e;exact I1.Ej (Zal _) (I1.hok.fresh (Zal _))
end L2
namespace L2.MP
open PySem PySem.Spec PyProof.Rows
structure Sw(F F':Hp)(a:Addr)(u:HO):Prop where
 ne:∀ b,b≠a->F' b=F b
 l:Rd F a u
 r:Rd F' a u
 d:lQ u
section
variable{K:Frag}{F F' H H':Hp}{a:Addr}{u:HO}{v:V}{p:PV}
theorem Sw.other(w:Sw F F' a u){b:Addr}{o:HO}(e:F b=some o)(h1:¬lQ o)(h2:∀ raw x,lQ x->o≠.frz raw x):F' b=some o:=by
 rw[w.ne b λz=>?_]
 ·exact e
 ·subst z;rcases w.l with q|⟨raw,q⟩
  ·rw[e] at q;cases q;exact h1 w.d
  ·rw[e] at q;cases q;exact h2 raw u w.d rfl
theorem Sw.rd(w:Sw F F' a u){b:Addr}{o:HO}(h:Rd F b o)(ho:lQ o):Rd F' b o:=by
 by_cases hb:b=a
 ·subst hb;have:o=u:=by
   rcases h with h|⟨r,h⟩<;>rcases w.l with q|⟨r',q⟩<;>rw[h] at q<;>cases q
   ·rfl
   ·exact ho.elim
   ·exact w.d.elim
   ·rfl
  rw[this];exact w.r
 ·rcases h with h|⟨r,h⟩
  ·exact .inl (by rw[w.ne b hb];exact h)
  ·exact .inr ⟨r,by rw[w.ne b hb];exact h⟩
theorem Sw.sq(w:Sw F F' a u){b:Addr}{xs:List V}(h:SqL K F b xs):SqL K F' b xs:=by
 rcases h with(h|⟨o,h⟩)|h
 ·exact .inl (.inl (w.other h (λz=>z) λ_ _ _ z=>by cases z))
 ·exact .inl (.inr ⟨o,w.other h (λz=>z) λ_ x hx z=>by cases z;exact hx⟩)
 ·exact .inr h
theorem Rep.sw(w:Sw F F' a u)(h:Rep K F v p):Rep K F' v p:=by
 induction h with
 |non=>exact .non
 |bl=>exact .bl
 |int=>exact .int
 |str=>exact .str
 |ty=>exact .ty
 |tup h hl _ ih=>exact .tup (w.other h (λz=>z) λ_ _ _ z=>by cases z) hl ih
 |lst h hl _ ih=>exact .lst (w.sq h) hl ih
 |dk h hl _ ih=>exact .dk (w.rd h trivial) hl ih
 |dt h hl _ ih=>exact .dt (w.rd h trivial) hl ih
 |exc nm h hd hl _ ih=>exact .exc nm (w.other h (λz=>z) λ_ _ _ z=>by cases z) (w.other hd (λz=>z) λ_ _ _ z=>by cases z) hl ih
 |exc0 nm h=>exact .exc0 nm (w.other h (λz=>z) λ_ _ _ z=>by cases z)
theorem bR.sw{xs:List V}{l:List PV}(w:Sw F F' a u)(h:bR K F xs l):bR K F' xs l:=⟨h.1,λj x p a b=>(h.2 j x p a b).sw w⟩
theorem Own.sw{b:Addr}(w:Sw F F' a u)(e:H' b=H b)(h:Own K F H b p):Own K F' H' b p:=by
 cases p with
 |lst l=>obtain⟨xs,q,r⟩:=h;exact⟨xs,by rw[e];exact q,r.sw w⟩
 |dk l=>obtain⟨xs,q,r,s⟩:=h;exact⟨xs,by rw[e];exact q,r,λj x p a b=>(s j x p a b).sw w⟩
 |dt l=>obtain⟨xs,q,r,s⟩:=h;exact⟨xs,by rw[e];exact q,r,λj x p a b=>(s j x p a b).sw w⟩
 |_=>exact h.elim
theorem Dp.sw{P:Addr->Prop}(w:Sw F F' a u)(wH:Sw H H' a u)(h:Dp K F H P v p):(∀ b,P b->b≠a)->Dp K F' H' P v p:=by
 induction h with
 |fr h st=>exact λ_=>.fr (h.sw w) st
 |lst h hp hs dj hl _ ih=>exact λn=>.lst (by rw[wH.ne _ (n _ hp)];exact h) hp hs dj hl λj x p e1 e2=>ih j x p e1 e2 λb q=>n b (hs j b q).1
 |tup h hs dj hl _ ih=>exact λn=>.tup (wH.other h (λz=>z) λ_ _ _ z=>by cases z) hs dj hl λj x p e1 e2=>ih j x p e1 e2 λb q=>n b (hs j b q)
 |dk h hp hs dj hl _ ih=>exact λn=>.dk (by rw[wH.ne _ (n _ hp)];exact h) hp hs dj hl λj x p e1 e2=>ih j x p e1 e2 λb q=>n b (hs j b q).1
 |dt h hp hs dj hl _ ih=>exact λn=>.dt (by rw[wH.ne _ (n _ hp)];exact h) hp hs dj hl λj x p e1 e2=>ih j x p e1 e2 λb q=>n b (hs j b q).1
theorem RE.sw{C C':Cf}{O:St}{Z:Rho}(w:Sw F F' a u)(wH:Sw H H' a u)(fa:F a≠none)(hio:C'.io=C.io)(hnw:C'.nw=C.nw)(h0:∀ b,b≠a->C'.H0 b=C.H0 b)(rb:RB C' F' H')(R:RE K C F H O Z):RE K C' F' H' O Z where
 rb:=rb
 len:=R.len
 sh:=λi p e=>let⟨v,e1,r⟩:=R.sh i p e;⟨v,e1,r.sw w⟩
 ow:=λi p e=>by
  obtain⟨b,e1,e2,e3,e4⟩:=R.ow i p e;have nb:b≠a:=λz=>by subst z;exact fa e3
  exact⟨b,e1,e2.sw w (wH.ne b nb),by rw[w.ne b nb];exact e3,by rw[hio,hnw,h0 b nb];exact e4⟩
 dis:=R.dis
 dd:=by
  obtain⟨P,d⟩:=R.dd;have nb:∀ i b,P i b->b≠a:=λi b q z=>by subst z;exact fa (d.own i b q).1
  refine⟨P,λi b q=>?_,d.dis,d.ow,λi p e=>?_⟩
  ·obtain⟨c1,⟨o,c2,c3⟩,c4,c5⟩:=d.own i b q;exact⟨by rw[w.ne b (nb i b q)];exact c1,⟨o,by rw[wH.ne b (nb i b q)];exact c2,c3⟩,by rw[hnw];exact c4,by rw[h0 b (nb i b q)];exact c5⟩
  ·obtain⟨v,e1,e2⟩:=d.dp i p e;exact⟨v,e1,e2.sw w wH (nb i)⟩
end
def dz(G:Hp)(a:Addr)(raw:Obj)(u:HO):Hp:=λb=>@ite _ (b=a/\G a=some u) (Classical.propDecidable _) (some (.frz raw u)) (G b)
theorem fV{G:Hp}{a b:Addr}{raw:Obj}{u:HO}(h:b≠a):dz G a raw u b=G b:=@if_neg _ (Classical.propDecidable _) (λz=>h z.1) _ _ _
theorem yI{G:Hp}{a:Addr}{raw:Obj}{u:HO}(h:G a=some u):dz G a raw u a=some (.frz raw u):=@if_pos _ (Classical.propDecidable _) ⟨rfl,h⟩ _ _ _
theorem vq{G:Hp}{a:Addr}{raw:Obj}{u:HO}(h:G a≠some u):dz G a raw u a=G a:=@if_neg _ (Classical.propDecidable _) (λz=>h z.2) _ _ _
def Zf(F:Hp)(O:St)(i:Nat):Prop:=∃ a raw u,O[i]?=some (some (.ref a))/\F a=some (.frz raw u)/\lQ u
def MSh(K:Frag)(C:Cg)(i:Nat)(t:TS)(f:Sn):Prop:=∀ F H O Z D o,RE K C.toCf F H O Z->Zf F O i->f Z=some o->PO' K C F D o->t D O H
def MOh(K:Frag)(C:Cg)(i:Nat)(te:TE)(f:Fn PV):Prop:=
 ∀ F H O Z Q r,RE K C.toCf F H O Z->Zf F O i->f Z=some r->Pr C F (λp=>∀ a F' H',Up F H F' H'->H a=none->F' a=none->Own K F' H' a p->Q (.ref a) H') r->te O H Q
def zA(i:Nat)(f:Sn):Sn:=λZ=>match Z[i]? with
 |some (some (.sh p))=>if p.isD=true then(match f Z with
  |some (.rd _)=>none
  |x=>x) else none
 |_=>none
section
variable{K:Frag}{t:TS}{f:Sn}
theorem O9{io:Addr->Prop}{H0 F0 F H:Hp}{O:St}{Z:Rho}{a:Addr}{u:HO}{raw:Obj}(R:RE K (C0 io H0 F0).toCf F H O Z)(fa:F a=some u)(hu:lQ u) :
  RE K (C0 io (dz H0 a raw u) (dz F0 a raw u)).toCf (upd F a (.frz raw u)) (upd H a (.frz raw u)) O Z/\H a=some u:=by
 have ha:=R.rb.sub _ _ fa;have w:Sw F (upd F a (.frz raw u)) a u:=⟨λb hb=>aL hb,.inl fa,.inr ⟨raw,aP⟩,hu⟩;have wH:Sw H (upd H a (.frz raw u)) a u:=⟨λb hb=>aL hb,.inl ha,.inr ⟨raw,aP⟩,hu⟩;have nt:∀ ys,u≠.tup ys:=λys z=>by subst z;exact hu
 have rb2:RB (C0 io (dz H0 a raw u) (dz F0 a raw u)).toCf (upd F a (.frz raw u)) (upd H a (.frz raw u)):=by
  refine⟨λb o q=>?_,λb o q n=>?_,λb o q=>?_,λb q=>?_⟩
  ·by_cases hb:b=a
   ·subst hb;rw[aP] at q ⊢;exact q
   ·rw[aL hb] at q ⊢;exact R.rb.sub b o q
  ·by_cases hb:b=a
   ·subst hb;rw[aP];by_cases hh:H0 b=some u
    ·have q:dz H0 b raw u b=some o:=q;rw[yI hh] at q;exact q
    ·have q:dz H0 b raw u b=some o:=q;rw[vq hh] at q;have:=R.rb.keep b o q n;rw[ha] at this;exact absurd (q.trans this.symm) hh
   ·have q:dz H0 a raw u b=some o:=q;rw[fV hb] at q;rw[aL hb];exact R.rb.keep b o q n
  ·by_cases hb:b=a
   ·subst hb;rw[aP] at q;cases q;rcases R.rb.new b u fa with z|z|⟨ys,z⟩
    ·exact .inl (yI z)
    ·refine .inr (.inl ?_);show dz H0 b raw u b=none
     rw[vq (by rw[show H0 b=none from z];intro y;cases y)];exact z
    ·exact absurd z (nt ys)
   ·rw[aL hb] at q;rcases R.rb.new b o q with z|z|z
    ·exact .inl ((fV hb).trans z)
    ·exact .inr (.inl ((fV hb).trans z))
    ·exact .inr (.inr z)
  ·obtain⟨q1,q2⟩:=R.rb.ios b q;refine⟨?_,?_⟩
   ·by_cases hb:b=a
    ·subst hb;rw[aP];intro z;cases z
    ·rw[aL hb];exact q1
   ·show dz H0 a raw u b≠none
    by_cases hb:b=a
    ·subst hb;by_cases hh:H0 b=some u
     ·rw[yI hh];intro z;cases z
     ·rw[vq hh];exact q2
    ·rw[fV hb];exact q2
 have R2:RE K (C0 io (dz H0 a raw u) (dz F0 a raw u)).toCf (upd F a (.frz raw u)) (upd H a (.frz raw u)) O Z:=RE.sw (C:=(C0 io H0 F0).toCf) w wH (by rw[fa];intro z;cases z) rfl rfl (λb hb=>fV hb) rb2 R
 exact⟨R2,ha⟩
theorem Ul{io:Addr->Prop}{H0 F0:Hp}{Pc:Hp->Prop}(i:Nat)(hP:Pc H0)(hh:∀ H0 a raw u,lQ u->Pc H0->Pc (dz H0 a raw u))(h:∀ H0 F0,Pc H0->MSh K (C0 io H0 F0) i t f):MS K (C0 io H0 F0) (Uj i t) (zA i f):=by
 intro F H O Z D o R e P;unfold zA at e;split at e
 case h_2=>cases e
 rename_i p hp;split at e
 case isFalse=>cases e
 rename_i hd;obtain⟨e',nrd⟩:f Z=some o/\∀ q,o≠.rd q:=by
  split at e
  ·cases e
  ·rename_i x hx;exact⟨e,λq z=>by subst z;exact hx q e⟩
 obtain⟨v,ev,rv⟩:=R.sh i p hp;obtain⟨a,u,rfl,rd,hu⟩:∃ a u,v=.ref a/\Rd F a u/\lQ u:=by
  cases rv with
  |dk h=>exact⟨_,_,rfl,h,trivial⟩
  |dt h=>exact⟨_,_,rfl,h,trivial⟩
  |_=>cases hd
 refine⟨a,u,ev,hu,?_⟩;rcases rd with fa|⟨raw,fa⟩
 case inr=>exact .inl ⟨⟨raw,R.rb.sub _ _ fa⟩,h H0 F0 hP F H O Z D o R ⟨a,raw,u,ev,fa,hu⟩ e' P⟩
 refine .inr ⟨R.rb.sub _ _ fa,λraw=>?_⟩;have ha:=R.rb.sub _ _ fa;have w:Sw F (upd F a (.frz raw u)) a u:=⟨λb hb=>aL hb,.inl fa,.inr ⟨raw,aP⟩,hu⟩;have wH:Sw H (upd H a (.frz raw u)) a u:=⟨λb hb=>aL hb,.inl ha,.inr ⟨raw,aP⟩,hu⟩;have nt:∀ ys,u≠.tup ys:=λys z=>by subst z;exact hu
 obtain⟨R2,_⟩:=O9 (raw:=raw) R fa hu;have back:∀ {F3 H3:Hp},aU (upd F a (.frz raw u)) F3->RB (C0 io (dz H0 a raw u) (dz F0 a raw u)).toCf F3 H3->H3 a=some (.frz raw u)/\Sw F3 (upd F3 a u) a u/\Sw H3 (upd H3 a u) a u/\aU F (upd F3 a u)/\RB (C0 io H0 F0).toCf (upd F3 a u) (upd H3 a u):=by
  intro F3 H3 s3 rb3;have f3:F3 a=some (.frz raw u):=s3 _ _ aP;have h3:=rb3.sub _ _ f3;refine⟨h3,⟨λb hb=>aL hb,.inr ⟨raw,f3⟩,.inl aP,hu⟩,⟨λb hb=>aL hb,.inr ⟨raw,h3⟩,.inl aP,hu⟩,λb o q=>?_,λb o q=>?_,λb o q n=>?_,λb o q=>?_,λb q=>?_⟩
  ·by_cases hb:b=a
   ·subst hb;rw[aP,<-q,fa]
   ·rw[aL hb];exact s3 b o (by rw[aL hb];exact q)
  ·by_cases hb:b=a
   ·subst hb;rw[aP] at q ⊢;exact q
   ·rw[aL hb] at q ⊢;exact rb3.sub b o q
  ·by_cases hb:b=a
   ·subst hb;have:=R.rb.keep b o q n;rw[ha] at this;rw[aP];exact this
   ·rw[aL hb];exact rb3.keep b o ((fV hb).trans q) n
  ·by_cases hb:b=a
   ·subst hb;rw[aP] at q;cases q;exact R.rb.new b u fa
   ·rw[aL hb] at q;rcases rb3.new b o q with z|z|z
    ·exact .inl ((fV hb).symm.trans z)
    ·exact .inr (.inl ((fV hb).symm.trans z))
    ·exact .inr (.inr z)
  ·refine⟨?_,(R.rb.ios b q).2⟩;by_cases hb:b=a
   ·subst hb;rw[aP];intro z;cases z
   ·rw[aL hb];exact(rb3.ios b q).1
 have backR:∀ {F3 H3:Hp}{σ3:St}{ρ3:Rho},aU (upd F a (.frz raw u)) F3->RE K (C0 io (dz H0 a raw u) (dz F0 a raw u)).toCf F3 H3 σ3 ρ3->H3 a=some (.frz raw u)/\aU F (upd F3 a u)/\RE K (C0 io H0 F0).toCf (upd F3 a u) (upd H3 a u) σ3 ρ3:=by
  intro F3 H3 σ3 ρ3 s3 R3;obtain⟨b1,b2,b3,b4,b5⟩:=back s3 R3.rb;have f3:F3 a=some (.frz raw u):=s3 _ _ aP;exact⟨b1,b4,RE.sw (C:=(C0 io (dz H0 a raw u) (dz F0 a raw u)).toCf) b2 b3 (by rw[f3];intro z;cases z) rfl rfl (λb hb=>(fV hb).symm) b5 R3⟩
 refine h (dz H0 a raw u) (dz F0 a raw u) (hh _ _ _ _ hu hP) _ _ O Z _ o R2 ⟨a,raw,u,ev,aP,hu⟩ e' ?_;cases o with
 |nx ρ3=>exact λF3 H3 σ3 s3 R3=>let⟨b1,b2,b3⟩:=backR s3 R3;⟨b1,P _ _ _ b2 b3⟩
 |bk ρ3=>exact λF3 H3 σ3 s3 R3=>let⟨b1,b2,b3⟩:=backR s3 R3;⟨b1,P _ _ _ b2 b3⟩
 |ct ρ3=>exact λF3 H3 σ3 s3 R3=>let⟨b1,b2,b3⟩:=backR s3 R3;⟨b1,P _ _ _ b2 b3⟩
 |rt q=>exact λv F3 H3 s3 rb3 r=>let⟨b1,b2,b3,b4,b5⟩:=back s3 rb3;⟨b1,P v _ _ b4 b5 (r.sw b2)⟩
 |ro q=>
  intro b F3 H3 s3 rb3 ow nb n0;obtain⟨b1,b2,b3,b4,b5⟩:=back s3 rb3;have f3:F3 a=some (.frz raw u):=s3 _ _ aP;have hb:b≠a:=λz=>by subst z;rw[f3] at nb;cases nb
  exact⟨b1,P b _ _ b4 b5 (ow.sw b2 (b3.ne b hb)) (by rw[aL hb];exact nb) ((fV hb).symm.trans n0)⟩
 |rd q=>exact absurd rfl (nrd q)
 |ex z=>exact λ_ _ _ _ _ _ x=>x.elim
theorem Pb{io:Addr->Prop}{H0 F0:Hp}(i:Nat)(h:∀ H0 F0,MSh K (C0 io H0 F0) i t f):MS K (C0 io H0 F0) (Uj i t) (zA i f):=Ul (Pc:=λ_=>True) i trivial (λ_ _ _ _ _ _=>trivial) λH0 F0 _=>h H0 F0
end
def Cq(l:List (Key×PV)):List PV:=l.map λkv=>JN kv.1
def Ai:PV->Option (Res (List PV))
 |.dk l=>some (.ok (Cq l))
 |_=>none
def Rj(K:Frag)(C:Cg)(i:Nat)(wi:TI)(f:Fn (List PV)):Prop:=
 ∀ F H O Z R' r,RE K C.toCf F H O Z->Zf F O i->f Z=some r->Pr C F (λl=>∀ J F' H',Up F H F' H'->ItR K J F' l->R' J H') r->wi O H R'
section
variable{K:Frag}{C:Cg}{te:TE}{t:TS}{f:Sn}{F H:Hp}{O:St}{Z:Rho}{D:Ends}{o:Out}
theorem Hu{k:Key}:Rep K F (kV k) (JN k):=by
 cases k with
 |inl i=>exact .int
 |inr z=>exact .str
theorem JZ(i:Nat):Rj K C i (XQ (mj i)) (m1 Ai (mV i)):=by
 intro F H O Z R' r R hh e P;rcases bW e with⟨z,e1,rfl⟩|⟨p,e1,hk⟩
 ·unfold mV at e1;split at e1
  ·cases e1
  ·cases e1
 obtain⟨a,raw,u,ev,fa,hu⟩:=hh;have hp:Z[i]?=some (some (.sh p)):=by
  unfold mV at e1;split at e1
  ·rename_i q hq;cases e1;exact hq
  ·cases e1
 match p,hk with
 |.dk l,hk=>
  cases hk;obtain⟨v,ev',rv⟩:=R.sh i _ hp;rw[ev] at ev';cases ev';cases rv with
  |@dk _ xs _ h hl hr=>
   have hx:u=.dK xs:=by
    rcases h with h|⟨o,h⟩
    ·rw[fa] at h;cases h
    ·rw[fa] at h;cases h;rfl
   subst hx;have len:xs.length=l.length:=by have:=Za3 List.length hl;simpa using this
   refine⟨_,ev,a,raw,xs,rfl,R.rb.sub _ _ fa,P _ F H (Up.refl R.rb.sub) ⟨λF' H' s s'=>?_,λj F' H' hj s s'=>?_,λj F' H' x H'' hj s s' y=>?_⟩⟩
   ·exact⟨s' _ _ (s _ _ fa),by unfold Cq;rw[Zab];exact len.symm⟩
   ·refine⟨s' _ _ (s _ _ fa),?_⟩;unfold Cq at hj;rw[Zab] at hj;omega
   ·obtain⟨rfl,kv,hkv,rfl⟩:=y;have hl2:(l.map (·.1))[j]?=some kv.1:=by rw[<-hl,Zad,hkv];rfl
    refine⟨F',JN kv.1,Up.refl s',?_,Hu⟩;unfold Cq;rw[Zad] at hl2 ⊢;cases q:l[j]? with
    |none=>rw[q] at hl2;cases hl2
    |some w=>
     rw[q] at hl2;show some (JN w.1)=some (JN kv.1)
     rw[show w.1=kv.1 from Zaf hl2]
theorem Pg{i:Nat}{wi:TI}{it:Fn (List PV)}{gt:TG}{tg:PV->Rho->Option Rho}(hi:Rj K C i wi it)(hg:MG K C gt tg)(hb:MS K C t f):MSh K C i (Ys wi gt t) (ph it tg f):=by
 intro F H O Z D o R hh e P;rcases dg e with⟨z,e1,rfl⟩|⟨l,e1,hk⟩
 ·exact hi F H O Z _ _ R hh e1 P
 ·exact hi F H O Z _ _ R hh e1 λJ F' H' u hJ=>FJ hg hb hJ (R.up u) hk (P.up u.ff)
theorem jy{wi:TI}{it:Fn (List PV)}{fr:List (Option Nat)}{gt:TG}{tg:PV->Rho->Option Rho}{T:List Nat}{tc:TT}{tst:Fn Bool}{el:Fn PV}{i0:Nat}(hi:Rj K C i0 wi it)(hg:MG K C gt tg)(hT:Wr T tg)(ht:MT K C tc tst)(he:MJ K C (aF K) te el)
  (hfr:T.all (λj=>fr[j]?==some none)=true:=by rfl):MOh K C i0 (Fv wi fr gt tc te) (fZ it fr tg tst el):=by
 intro F H O Z Q r R hh e P;rcases bW e with⟨z,e1,rfl⟩|⟨l,e1,hk⟩
 ·exact hi F H O Z _ _ R hh e1 P
 split at hk
 case isFalse=>cases hk
 rename_i hlen;refine hi F H O Z _ _ R hh e1 λJ F1 H1 u hJ D hD=>?_;have R1:=R.up u;obtain⟨Rb,no⟩:=R1.block fr;have hD0:C.H0 D=none:=R1.rb.wK hD;have hFD:F1 D=none:=u.fh.free hD;have hρ:∀ (j:Nat),j∈T->(frR fr Z)[j]?=some none:=λj hj=>by
  have:=ZaP.mp hfr j hj;unfold frR;rw[Zad,show fr[j]?=some none by simpa using this]
  rfl
 refine⟨λi m O' H'=>∃ F' ys acc,m=l.length-i/\i<=l.length/\aU F1 F'/\(∀ b o,F' b=some o->F1 b=some o\/Frz H1 b o)/\aU H1 H'/\H' D=some (.lst ys)/\F' D=none/\bR K F' ys acc/\acc.length<=i /\
   RE K C.toCf F' H' O' (frR fr Z)/\bnd (fD tg tst el (frR fr Z) (l.drop i)) (λr=>some (.ok (.lst (acc++r))))=some r,
  ⟨l.length,F1,[],[],by simp,Za7 _,aU.refl _,λ_ _ q=>.inl q,fj hD,aP,hFD,.nil,Zal _,Rb.other hFD hD0 no,by rw[ZcN];exact hk⟩,?_⟩
 rintro i m O' H' ⟨F',ys,acc,rfl,hil,s1,fr1,sH,eD,nD,ra,hacc,R',e'⟩;by_cases hlt:i<l.length
 case neg=>
  have ei:i=l.length:=by omega
  subst ei;rw[ZcY] at e';have e':some (Res.ok (PV.lst (acc++[])))=some r:=e';rw[Za1] at e';cases e';exact .inl ⟨hJ.stop F' H' s1 R'.rb.sub,P D F' H' (u.trans ⟨s1,sH,fr1,R'.rb.sub⟩) (u.hh.free hD) nD ⟨ys,eD,ra⟩⟩
 refine .inr ⟨hJ.go i F' H' hlt s1 R'.rb.sub,λσ2 H2=>∃ F2 ys acc,aU F1 F2/\(∀ b o,F2 b=some o->F1 b=some o\/Frz H1 b o)/\aU H1 H2/\H2 D=some (.lst ys)/\F2 D=none/\bR K F2 ys acc/\acc.length<=i+1 /\
   RE K C.toCf F2 H2 σ2 (frR fr Z)/\bnd (fD tg tst el (frR fr Z) (l.drop (i+1))) (λr=>some (.ok (.lst (acc++r))))=some r,
  λσ2 H2 ⟨F2,ys,acc,z⟩=>⟨l.length-(i+1),by omega,F2,ys,acc,rfl,hlt,z⟩,λx H'' y=>?_⟩
 obtain⟨F'',p,u2,ep,rx⟩:=hJ.yld i F' H' x H'' hlt s1 R'.rb.sub y;have ed:l.drop i=p::l.drop (i+1):=by
  rw[ZbQ hlt];rw[Zae hlt] at ep;rw[Zaf ep]
 rw[ed,fD] at e';split at e'
 ·cases e'
 rename_i ρ1 h1;obtain⟨w1,w2,w3⟩:=hT p _ ρ1 h1;have no1:=w3 no;have weak:∀ (j:Nat) s,(frR fr Z)[j]?=some (some s)->ρ1[j]?=some (some s):=λj s ej=>by
  rw[w2 j λz=>by rw[hρ j z] at ej;cases ej];exact ej
 refine hg F'' H'' O' (frR fr Z) x p ρ1 _ (R'.up u2) rx h1 λσ1 R1'=>?_;have stay:∀ {F3 H3:Hp},Up F' H' F3 H3->aU F1 F3/\(∀ b o,F3 b=some o->F1 b=some o\/Frz H1 b o)/\aU H1 H3/\H3 D=some (.lst ys)/\F3 D=none/\bR K F3 ys acc:=λ{F3 H3} u3=>by
  refine⟨s1.trans u3.ff,λb o q=>?_,sH.trans u3.hh,u3.hh _ _ eD,?_,ra.up u3.ff⟩
  ·rcases u3.fr b o q with z|z
   ·exact fr1 b o z
   ·exact .inr (z.imp (λz=>sH.free z) id)
  ·cases q:F3 D with
   |none=>rfl
   |some o=>
    rcases u3.fr D o q with z|z|⟨ys,z⟩
    ·rw[nD] at z;cases z
    ·rw[eD] at z;cases z
    ·subst z;have w:=u3.fh _ _ q;rw[u3.hh _ _ eD] at w;cases w
 have Pl:∀ {F3 H3:Hp},Up F' H' F3 H3->∀ {z:PV},r=.ex z->PX C F3 z:=λ{F3 H3} u3 {z} ez=>by
  subst ez;exact PX.up P (u.ff.trans (s1.trans u3.ff))
 rw[mU] at e';rcases bW e' with⟨z',e4,ez⟩|⟨b,e4,e5⟩
 ·exact ht F'' H'' σ1 ρ1 _ _ R1' e4 (Pl u2 ez)
 refine ht F'' H'' σ1 ρ1 _ _ R1' e4 λF3 H3 u3=>?_;have u23:=u2.trans u3;cases b with
 |false=>
  rw[Zam (by decide)] at e5 ⊢
  obtain⟨a1,a2,a3,a4,a5,a6⟩:=stay u23;exact⟨F3,ys,acc,a1,a2,a3,a4,a5,a6,by omega,(R1'.up u3).weak w1.symm weak,e5⟩
 |true=>
  rw[Zan rfl] at e5 ⊢;rw[mU] at e5;rcases bW e5 with⟨z',e6,ez⟩|⟨q,e6,e7⟩
  ·exact he F3 H3 σ1 ρ1 _ _ (R1'.up u3) e6 (Pl u23 ez)
  refine he F3 H3 σ1 ρ1 _ _ (R1'.up u3) e6 λv F4 H4 u4 rv=>?_;have u24:=u23.trans u4;obtain⟨a1,a2,a3,a4,a5,a6⟩:=stay u24;refine⟨ys,a4,by rw[a6.1];omega,F4,ys++[v],acc++[q],a1,a2,Fx hD a3,aP,a5,a6.snoc rv,by simp;omega,((R1'.up (u3.trans u4)).other a5 hD0 no1).weak w1.symm weak,?_⟩
  rw[mU] at e7;rw[<-e7];congr 1
  funext rr
  show some (Res.ok (PV.lst (acc++[q]++rr)))=some (Res.ok (PV.lst (acc++q::rr)))
  rw[Zby];rfl
def ni(i:Nat)(f:Fn PV):Fn PV:=λZ=>match Z[i]? with
 |some (some (.sh p))=>if p.isD=true then f Z else none
 |_=>none
theorem tK{io:Addr->Prop}{H0 F0:Hp}{fe:Fn PV}(i:Nat)(h:∀ H0 F0,MOh K (C0 io H0 F0) i te fe):MO K (C0 io H0 F0) (Uk i te) (ni i fe):=by
 intro F H O Z Q r R e P;unfold ni at e;split at e
 case h_2=>cases e
 rename_i p hp;split at e
 case isFalse=>cases e
 rename_i hd;obtain⟨v,ev,rv⟩:=R.sh i p hp;obtain⟨a,u,rfl,rd,hu⟩:∃ a u,v=.ref a/\Rd F a u/\lQ u:=by
  cases rv with
  |dk h=>exact⟨_,_,rfl,h,trivial⟩
  |dt h=>exact⟨_,_,rfl,h,trivial⟩
  |_=>cases hd
 refine⟨a,u,ev,hu,?_⟩;rcases rd with fa|⟨raw,fa⟩
 case inr=>exact .inl ⟨⟨raw,R.rb.sub _ _ fa⟩,h H0 F0 F H O Z Q r R ⟨a,raw,u,ev,fa,hu⟩ e P⟩
 refine .inr ⟨R.rb.sub _ _ fa,λraw=>?_⟩;have ha:=R.rb.sub _ _ fa;obtain⟨R2,_⟩:=O9 (raw:=raw) R fa hu;refine h (dz H0 a raw u) (dz F0 a raw u) _ _ O Z _ r R2 ⟨a,raw,u,ev,aP,hu⟩ e ?_;cases r with
 |ex z=>exact λ_ _ _ _ _ _ x=>x.elim
 |ok q=>
  intro b F3 H3 u3 n1 n2 ow;have f3:F3 a=some (.frz raw u):=u3.ff _ _ aP;have h3:=u3.fh _ _ f3;have hb:b≠a:=λz=>by subst z;rw[f3] at n2;cases n2
  refine⟨h3,P b (upd F3 a u) (upd H3 a u) ⟨λc o' q=>?_,λc o' q=>?_,λc o' q=>?_,λc o' q=>?_⟩ (by rw[aL hb] at n1;exact n1) (by rw[aL hb];exact n2) (ow.sw ⟨λc hc=>aL hc,.inr ⟨raw,f3⟩,.inl aP,hu⟩ (aL hb))⟩
  ·by_cases hc:c=a
   ·subst hc;rw[aP,<-q,fa]
   ·rw[aL hc];exact u3.ff c o' (by rw[aL hc];exact q)
  ·by_cases hc:c=a
   ·subst hc;rw[aP,<-q,ha]
   ·rw[aL hc];exact u3.hh c o' (by rw[aL hc];exact q)
  ·by_cases hc:c=a
   ·subst hc;rw[aP] at q;cases q;exact .inl fa
   ·rw[aL hc] at q;rcases u3.fr c o' q with z|z|z
    ·rw[aL hc] at z;exact .inl z
    ·rw[aL hc] at z;exact .inr (.inl z)
    ·exact .inr (.inr z)
  ·by_cases hc:c=a
   ·subst hc;rw[aP] at q ⊢;exact q
   ·rw[aL hc] at q ⊢;exact u3.fh c o' q
end
structure XS(a c:Addr)(F H F' H':Hp):Prop where
 ff:aU F F'
 hb:∀ b o,H b=some o->b≠a->b≠c->H' b=some o
 fr:∀ b o,F' b=some o->F b=some o\/Frz H b o
 fh:aU F' H'
def M9(K:Frag)(F:Hp)(a c:Addr)(p q:PV)(xs:List V)(l:List PV):Prop:=
 xs.length=l.length/\xs[0]?=some (.ref a)/\l[0]?=some p/\xs[1]?=some (.ref c)/\l[1]?=some q/\∀ (k:Nat) x r,2<=k->xs[k]?=some x->l[k]?=some r->Rep K F x r
def Cr(K:Frag)(m:List PV->Option (Res PV)):Sp:=λvs H Q _=>∃ ps F a c p q p' q',aU F H/\M9 K F a c p q vs ps/\a≠c/\Own K F H a p/\F a=none/\Own K F H c q/\F c=none/\m ps=some (.ok (.tup [p',q']))/\∀ F' H',XS a c F H F' H'->Own K F' H' a p'->F' a=none->Own K F' H' c q'->F' c=none->Q .non H'
def dR(ps:List PV)(n:Nat):Rho:=(ps.mapIdx λk p=>some (if k<2 then Sl.ow p else Sl.sh p))++List.replicate n none
def vy:Option Out->Option (Res PV)
 |some (.nx Z)=>match ownAt 0 Z,ownAt 1 Z with
  |some p,some q=>some (.ok (.tup [p,q]))
  |_,_=>none
 |_=>none
section
variable{K:Frag}{C:Cg}{N:List Str}{vs:List V}{H F:Hp}{Q:VK}{E:XK}{t:TS}{b:Sn}{m:List PV->Option (Res PV)}{ps:List PV}{a c:Addr}{p q:PV}{n:Nat}
theorem qm{i:Nat}{s:Sl}(e:(dR ps n)[i]?=some (some s)):∃ q,ps[i]?=some q/\s=if i<2 then Sl.ow q else Sl.sh q:=by
 unfold dR at e;by_cases hi:i<ps.length
 ·rw[Zak (by simpa using hi),Zcb] at e
  cases h:ps[i]? with
  |none=>rw[h] at e;cases e
  |some q=>rw[h] at e;exact⟨q,rfl,(Zaf (Zaf e)).symm⟩
 ·rw[Zas (by simpa using hi),Zbq] at e
  split at e<;>cases e
theorem rJ{i:Nat}{x:PV}(r:M9 K F a c p q vs ps)(e:(dR ps n)[i]?=some (some (.ow x))):(i=0/\x=p)\/(i=1/\x=q):=by
 obtain⟨q',e1,e2⟩:=qm e;by_cases hij:i<2
 ·rw[Zan hij] at e2;cases e2;rcases(show i=0\/i=1 by omega) with rfl|rfl
  ·rw[r.2.2.1] at e1;cases e1;exact .inl ⟨rfl,rfl⟩
  ·rw[r.2.2.2.2.1] at e1;cases e1;exact .inr ⟨rfl,rfl⟩
 ·rw[Zam hij] at e2;cases e2
theorem J0(s:aU F H)(r:M9 K F a c p q vs ps)(ac:a≠c)(w:Own K F H a p)(hn:F a=none)(w2:Own K F H c q)(hn2:F c=none)(hN:N.length=vs.length+n):RE K ⟨λb=>b=a\/b=c,False,H,F,E⟩ F H (start N vs) (dR ps n) where
 rb:=⟨s,λ_ _ h _=>h,λ_ _ h=>.inl h,λb hb=>by
  obtain⟨o,eo⟩:=w.ne;obtain⟨o2,eo2⟩:=w2.ne;have h1:H b≠none:=by
   rcases hb with rfl|rfl
   ·rw[eo];simp
   ·rw[eo2];simp
  exact⟨h1,h1⟩⟩
 len:=by unfold start dR;rw[ZaC,ZaC,Zab,List.length_mapIdx,ZbL,ZbL,r.1,hN];have:=r.1;omega
 sh:=λi x e=>by
  obtain⟨q',e1,e2⟩:=qm e;by_cases hij:i<2
  ·rw[Zan hij] at e2;cases e2
  ·rw[Zam hij] at e2;cases e2;have hi:i<vs.length:=by rw[r.1];exact cL e1
   exact⟨vs[i],kI (by simp[hi]),r.2.2.2.2.2 i _ _ (by omega) (by simp[hi]) e1⟩
 ow:=λi x e=>by
  rcases rJ r e with⟨rfl,rfl⟩|⟨rfl,rfl⟩
  ·exact⟨a,kI r.2.1,w,hn,.inl (.inl rfl)⟩
  ·exact⟨c,kI r.2.2.2.1,w2,hn2,.inl (.inr rfl)⟩
 dis:=λi k x y d e e' f f'=>by
  rcases rJ r e with⟨rfl,_⟩|⟨rfl,_⟩<;>rcases rJ r e' with⟨rfl,_⟩|⟨rfl,_⟩
  ·rfl
  ·rw[kI r.2.1] at f;rw[kI r.2.2.2.1] at f';cases f;cases f';exact absurd rfl ac
  ·rw[kI r.2.2.2.1] at f;rw[kI r.2.1] at f';cases f;cases f';exact absurd rfl ac
  ·rfl
 dd:=⟨_,RD.no λi x e=>by
  obtain⟨q',e1,e2⟩:=qm e;by_cases hij:i<2
  ·rw[Zan hij] at e2;cases e2
  ·rw[Zam hij] at e2;cases e2⟩
noncomputable abbrev C2(a c:Addr)(H0 F0:Hp):Cg:=⟨⟨λb=>b=a\/b=c,False,H0,F0,E0⟩,XR0⟩
theorem Ga{k:Nat}(hk:N.length=k+n)(hm:∀ ps r,m ps=some r->ps.length=k/\vy (b (dR ps n))=some r)(h:Cr K m vs H Q E)(hS:∀ (a c:Addr) (H0 F0:Hp),MSk K (C2 a c H0 F0) 0 t b) :
  t { nx:=λ_ H'=>Q .non H',rt:=Q } (start N vs) H:=by
 obtain⟨ps,F,a,c,p,q,p',q',s,rp,ac,w,hn,w2,hn2,e,P⟩:=h;obtain⟨hl,e⟩:=hm ps _ e;have R:=J0 (E:=E0) (N:=N) (n:=n) s rp ac w hn w2 hn2 (by rw[rp.1,hl];exact hk)
 cases ho:b (dR ps n) with
 |none=>rw[ho] at e;cases e
 |some o=>
  rw[ho] at e;refine hS a c H F F H _ _ _ o R ho ?_;cases o with
  |nx Z=>
   intro F' H' O s' R' kk;rw[kI rp.2.1] at kk;have e:(match ownAt 0 Z,ownAt 1 Z with|some p,some q=>some (Res.ok (PV.tup [p,q]))|_,_=>none)=some (.ok (.tup [p',q'])):=e
   split at e
   ·rename_i x y h0 h1;cases e;obtain⟨b0,e1,e2,e3,e4⟩:=R'.ow 0 _ (bO h0);obtain⟨b1,f1,f2,f3,f4⟩:=R'.ow 1 _ (bO h1);rw[kk] at e1;cases e1;have hc:b1=c:=by
     rcases f4 with(z|z)|z
     ·subst z;exact absurd (R'.dis 0 1 _ _ _ (bO h0) (bO h1) kk f1) (by decide)
     ·exact z
     ·exact z.1.elim
    subst hc;exact P F' H' ⟨s',λb o q h1 h2=>R'.rb.keep b o q λz=>z.elim h1 h2,R'.rb.new,R'.rb.sub⟩ e2 e3 f2 f3
   ·cases e
  |_=>cases e
theorem Gb(h:Cr K m vs H Q E){k:Nat}(hm:∀ ps r,m ps=some r->ps.length=k):vs.length=k:=by
 obtain⟨ps,F,a,c,p,q,p',q',s,rp,ac,w,hn,w2,hn2,e,P⟩:=h;rw[rp.1];exact hm ps _ e
theorem RE.aar{F' H':Hp}{O:St}{Z:Rho}{p' q':PV}{i j:Nat}(R:RE K C.toCf F H O Z)(ij:i≠j)(e:Z[i]?=some (some (.ow p)))(ea:O[i]?=some (some (.ref a)))(f0:Z[j]?=some (some (.ow q)))(fc:O[j]?=some (some (.ref c)))
  (u:XS a c F H F' H')(w:Own K F' H' a p')(hn:F' a=none)(w2:Own K F' H' c q')(hn2:F' c=none):RE K C.toCf F' H' O ((Z.set i (some (.ow p'))).set j (some (.ow q'))):=by
 obtain⟨a1,e1,e2,e3,e4⟩:=R.ow i p e;rw[ea] at e1;cases e1;obtain⟨c1,g1,g2,g3,g4⟩:=R.ow j q f0;rw[fc] at g1;cases g1;have own:∀ {b:Addr},b≠a->b≠c->∀ {x:PV},Own K F H b x->F b=none->Own K F' H' b x/\F' b=none:=λ{b} ha hc {x} ox fb=>by
  refine⟨ox.up u.ff λo q=>u.hb b o q ha hc,?_⟩;cases hF:F' b with
  |none=>rfl
  |some o=>
   obtain⟨ob,eob⟩:=ox.ne;rcases u.fr b o hF with z|z|⟨ys,z⟩
   ·rw[fb] at z;cases z
   ·rw[eob] at z;cases z
   ·subst z;have w:=u.fh _ _ hF;rw[u.hb b _ eob ha hc] at w;cases w;exact(ox.zq eob).elim
 have key:∀ {k:Nat}{x:PV},((Z.set i (some (Sl.ow p'))).set j (some (Sl.ow q')))[k]?=some (some (.ow x))->(k=j/\x=q')\/(k=i/\x=p')\/(k≠i/\k≠j/\Z[k]?=some (some (.ow x))):=λ{k x} f=>by
  rcases get_set f with⟨h1,h2⟩|⟨h1,h2⟩
  ·cases h2;exact .inl ⟨h1.symm,rfl⟩
  ·rcases get_set h2 with⟨h3,h4⟩|⟨h3,h4⟩
   ·cases h4;exact .inr (.inl ⟨h3.symm,rfl⟩)
   ·exact .inr (.inr ⟨Zbj h3,Zbj h1,h4⟩)
 have key':∀ {k:Nat}{x:PV},((Z.set i (some (Sl.ow p'))).set j (some (Sl.ow q')))[k]?=some (some (.ow x))->∃ y,Z[k]?=some (some (.ow y)):=λ{k x} f=>by
  rcases key f with⟨rfl,_⟩|⟨rfl,_⟩|⟨_,_,h⟩
  ·exact⟨q,f0⟩
  ·exact⟨p,e⟩
  ·exact⟨x,h⟩
 refine⟨⟨u.fh,λb o h n=>?_,λb o h=>?_,λb hb=>⟨?_,(R.rb.ios b hb).2⟩⟩,by simp[R.len],λk x f=>?_,λk x f=>?_,λk l x y b f f' h h'=>?_,?_⟩
 ·have h1:b≠a:=λz=>by
   subst z;rcases e4 with z|z
   ·exact n z
   ·rw[z.2] at h;cases h
  have h2:b≠c:=λz=>by
   subst z;rcases g4 with z|z
   ·exact n z
   ·rw[z.2] at h;cases h
  exact u.hb b o (R.rb.keep b o h n) h1 h2
 ·rcases u.fr b o h with z|z
  ·exact R.rb.new b o z
  ·exact .inr (z.imp (λz=>R.rb.wK z) id)
 ·by_cases hba:b=a
  ·subst hba;obtain⟨o,eo⟩:=w.ne;rw[eo];simp
  ·by_cases hbc:b=c
   ·subst hbc;obtain⟨o,eo⟩:=w2.ne;rw[eo];simp
   ·cases hb':H b with
    |none=>exact absurd hb' (R.rb.ios b hb).1
    |some o=>rw[u.hb b o hb' hba hbc];simp
 ·rcases get_set f with⟨h1,h2⟩|⟨h1,h2⟩
  ·cases h2
  ·rcases get_set h2 with⟨h3,h4⟩|⟨h3,h4⟩
   ·cases h4
   ·obtain⟨v,k1,k2⟩:=R.sh k x h4;exact⟨v,k1,k2.up u.ff⟩
 ·rcases key f with⟨rfl,rfl⟩|⟨rfl,rfl⟩|⟨k1,k2,h⟩
  ·exact⟨c,fc,w2,hn2,g4⟩
  ·exact⟨a,ea,w,hn,e4⟩
  ·obtain⟨b,h1,h2,h3,h4⟩:=R.ow k x h;have ha:b≠a:=λz=>by subst z;exact k1 (R.dis i k p x b e h ea h1).symm
   have hc:b≠c:=λz=>by subst z;exact k2 (R.dis j k q x b f0 h fc h1).symm
   exact⟨b,h1,(own ha hc h2 h3).1,(own ha hc h2 h3).2,h4⟩
 ·obtain⟨y1,k1⟩:=key' f;obtain⟨y2,k2⟩:=key' f';exact R.dis k l y1 y2 b k1 k2 h h'
 ·obtain⟨P,d⟩:=R.dd;have na:∀ k b,P k b->b≠a:=λk b z e'=>by subst e';exact d.ow k i p b z e ea
  have nc:∀ k b,P k b->b≠c:=λk b z e'=>by subst e';exact d.ow k j q b z f0 fc
  refine⟨P,λk b z=>?_,d.dis,λk l x b z f h=>?_,λk x f=>?_⟩
  ·obtain⟨a1,⟨o',a2,a3⟩,a4⟩:=d.own k b z;have hb':=u.hb b _ a2 (na k b z) (nc k b z);refine⟨?_,⟨o',hb',a3⟩,a4⟩;cases hF:F' b with
   |none=>rfl
   |some o=>
    rcases u.fr b o hF with w|w|⟨ys,w⟩
    ·rw[a1] at w;cases w
    ·rw[a2] at w;cases w
    ·subst w;have w:=u.fh _ _ hF;rw[hb'] at w;cases w;exact absurd rfl (a3 ys)
  ·obtain⟨y,k1⟩:=key' f;exact d.ow k l y b z k1 h
  ·rcases get_set f with⟨h1,h2⟩|⟨h1,h2⟩
   ·cases h2
   ·rcases get_set h2 with⟨h3,h4⟩|⟨h3,h4⟩
    ·cases h4
    ·obtain⟨w',k1,k2⟩:=d.dp k x h4;exact⟨w',k1,k2.up u.ff (λb o z q=>u.hb b o q (na k b z) (nc k b z)) λb ys q=>u.hb b _ q (λz=>by subst z;exact e2.zq q) λz=>by subst z;exact g2.zq q⟩
def Aj(i j:Nat)(g:Fn (List PV)):Fn (List PV):=λZ=>match ownAt i Z,ownAt j Z with
 |some p,some q=>bnd (g Z) λl=>some (.ok (p::q::l))
 |_,_=>none
def Nb(i j:Nat)(m:List PV->Option (Res PV))(g:Fn (List PV)):Sn:=λZ=>gw (Aj i j g Z) λl=>match m l with
 |some (.ok (.tup [p',q']))=>some (.nx ((Z.set i (some (.ow p'))).set j (some (.ow q'))))
 |_=>none
theorem Um{i j:Nat}{ts:TA}{g:Fn (List PV)}{m:List PV->Option (Res PV)}(ij:i≠j)(h:MA K C ts g):MS K C (Ax (wj (Cr K m) [] C.E (jU (mj i) (jU (mj j) ts)))) (Nb i j m g):=by
 intro F H O Z D o R e P;unfold Nb Aj at e;cases hp:ownAt i Z with
 |none=>rw[hp] at e;cases e
 |some p=>
 cases hq:ownAt j Z with
 |none=>rw[hp,hq] at e;cases e
 |some q=>
 rw[hp,hq] at e;have ep:=bO hp;have eq:=bO hq;obtain⟨a,ea,_⟩:=R.ow i p ep;obtain⟨c,ec,_⟩:=R.ow j q eq;refine⟨_,ea,_,ec,?_⟩;rcases dg e with⟨z,e1,rfl⟩|⟨l,e1,e2⟩
 ·rcases bW e1 with⟨z',e3,ez⟩|⟨l,e3,e4⟩
  ·cases ez;exact h F H O Z _ _ R e3 P
  ·cases e4
 ·rcases bW e1 with⟨z',e3,ez⟩|⟨l',e3,e4⟩
  ·cases ez
  cases e4;refine h F H O Z _ _ R e3 λxs F1 H1 u rr=>?_;have R1:=R.up u;obtain⟨a',ea',w1,n1,_⟩:=R1.ow i p ep;obtain⟨c',ec',w2,n2,_⟩:=R1.ow j q eq;rw[ea] at ea';cases ea';rw[ec] at ec';cases ec';have ac:a≠c:=λz=>by subst z;exact ij (R.dis i j p q a ep eq ea ec)
  split at e2
  ·rename_i p' q' hm;cases e2;refine⟨p::q::l',F1,a,c,p,q,p',q',u.fh,⟨by simp[rr.1],rfl,rfl,rfl,rfl,λk x r hk ex er=>?_⟩,ac,w1,n1,w2,n2,hm,λF2 H2 u2 o1 m1 o2 m2=>?_⟩
   ·obtain⟨k,rfl⟩:∃ k',k=k'+2:=⟨k-2,by omega⟩
    exact rr.2 k x r (by simpa using ex) (by simpa using er)
   ·exact P F2 H2 O (u.ff.trans u2.ff) (R1.aar ij ep ea eq ec u2 o1 m1 o2 m2)
  ·cases e2
theorem wW{k i:Nat}{te tb:TE}{fe fk:Fn PV}(he:MJ K C (aF K) te fe)(hk:MJ K C (aF K) tb fk):MSk K C k (S8 (mj i) tb te) (kO i fe fk):=by
 intro F H O Z D o R e P;refine he.Ud R e P λp v F1 H1 hk1 u a=>?_;split at hk1
 case h_2=>cases hk1
 rename_i d hd;obtain⟨b,g1,_⟩:=R.ow i _ (bO hd);refine⟨_,g1,hk.Ud (R.up u) hk1 (P.up u.ff) λkk w F2 H2 hk2 u2 rk=>?_⟩;split at hk2
 case h_2=>cases hk2
 rename_i d' hd';cases hk2;have R2:=R.up (u.trans u2);obtain⟨a',k1,k2,_⟩:=R2.ow i _ (bO hd);rw[g1] at k1;cases k1;obtain⟨ob,g,w'⟩:=Hq u2.fh k2 rk (Rep.up a u2.ff) hd';exact⟨b,_,rfl,g,P F2 _ O (u.trans u2).ff (R2.write (bO hd) g1 w') rfl⟩
theorem Gd{k:Nat}{c:TT}{fc:Fn Bool}{f:Sn}(n:Nat)(hc:MT K C c fc)(hb:MSk K C k t f):MSk K C k (Mg c t) (m5 fc f n):=by
 intro F H O Z D o R e P;refine⟨λm O' H'=>∃ F' Z',aU F F'/\RE K C.toCf F' H' O' Z'/\O'[k]?=O[k]?/\m5 fc f m Z'=some o,⟨n,F,Z,aU.refl _,R,rfl,e⟩,?_⟩;rintro m O' H' ⟨F',Z',s,R',kk,e'⟩;cases m with
 |zero=>cases e'
 |succ m=>
  refine hc.Ud R' e' (P.up s) λb F1 H1 hk u=>?_;have sF:aU F F1:=s.trans u.ff;have R1:=R'.up u;cases b with
  |false=>
   rw[Zam (by decide)] at hk ⊢
   cases hk;exact P F1 H1 O' sF R1 kk
  |true=>
   rw[Zan rfl] at hk ⊢;refine⟨λσ2 H2=>∃ F2 ρ2,aU F F2/\RE K C.toCf F2 H2 σ2 ρ2/\σ2[k]?=O[k]?/\m5 fc f m ρ2=some o,λσ2 H2 ⟨F2,ρ2,s2,R2,k2,e2⟩=>⟨m,ZcX _,F2,ρ2,s2,R2,k2,e2⟩,?_⟩;split at hk
   ·rename_i ρ2 h2;exact hb F1 H1 O' Z' _ _ R1 h2 λF3 H3 σ3 s3 R3 k3=>⟨F3,ρ2,sF.trans s3,R3,k3.trans kk,hk⟩
   ·rename_i ρ2 h2;exact hb F1 H1 O' Z' _ _ R1 h2 λF3 H3 σ3 s3 R3 k3=>⟨F3,ρ2,sF.trans s3,R3,k3.trans kk,hk⟩
   ·rename_i ρ2 h2;cases hk;exact hb F1 H1 O' Z' _ _ R1 h2 λF3 H3 σ3 s3 R3 k3=>P F3 H3 σ3 (sF.trans s3) R3 (k3.trans kk)
   ·rename_i n1 n2 n3;cases o with
    |nx ρ2=>exact absurd hk (n1 ρ2)
    |ct ρ2=>exact absurd hk (n2 ρ2)
    |bk ρ2=>exact absurd hk (n3 ρ2)
    |rt p=>exact hb F1 H1 O' Z' _ _ R1 hk (POk.up (D:=D) (c:=O[k]?) P sF)
    |ro p=>exact hb F1 H1 O' Z' _ _ R1 hk (POk.up (D:=D) (c:=O[k]?) P sF)
    |rd p=>exact hb F1 H1 O' Z' _ _ R1 hk (POk.up (D:=D) (c:=O[k]?) P sF)
    |ex z=>exact hb F1 H1 O' Z' _ _ R1 hk (PX.up P sF)
end
end L2.MP
namespace L2
open PySem PySem.Spec PyProof PyProof.Rows
def srt(ns:List Int):List Int:=ns.mergeSort λa b=>decide (a<=b)
theorem iW(ns:List Int):(srt ns).Perm ns:=List.mergeSort_perm ns _
theorem vz(ns:List Int):(srt ns).Pairwise (·<=·):=by
 have:=List.pairwise_mergeSort (le:=λa b:Int=>decide (a<=b)) (λa b c h1 h2=>by simp at h1 h2 ⊢;omega) (λa b=>by simp;omega) ns
 exact this.imp λh=>by simpa using h
theorem rK:∀ {l m:List Int},l.Perm m->l.Pairwise (·<=·)->m.Pairwise (·<=·)->l=m
 |[],m,p,_,_=>p.nil_eq
 |a::l,[],p,_,_=>absurd p.eq_nil (by simp)
 |a::l,b::m,p,hl,hm=>by
  have hab:a=b:=by
   have h1:b∈a::l:=p.symm.subset Zaw;have h2:a∈b::m:=p.subset Zaw;have l1:=(Zbu.mp hl).1;have m1:=(Zbu.mp hm).1;rcases ZaA.mp h1 with e|h1
   ·exact e.symm
   ·rcases ZaA.mp h2 with e|h2
    ·exact e
    ·have:=l1 b h1;have:=m1 a h2;omega
  subst hab;rw[rK (List.Perm.cons_inv p) (Zbu.mp hl).2 (Zbu.mp hm).2]
theorem wX{vs:List Value}{ns:List Int}(h:IntsAre vs ns):Vals (ns.map V.int) vs:=by
 induction h with
 |nil=>exact .nil
 |cons n t _ ih=>exact .cons ⟨t,rfl⟩ ih
def XX(K:Frag):List V->Hp->VK->Prop:=λxs H Q=>∃ p ns,xs=[.ref p]/\SqL K H p (ns.map V.int)/\ns.length<64/\∀ l,H l=none->Q (.ref l) (upd H l (.lst ((srt ns).map V.int)))
section
variable{X:Cx}
theorem J1:mW X (.builtin "sorted") (XX X.K):=by
 intro pins s O H xs us Q I rv h;obtain⟨p,ns,rfl,hq,h64,q⟩:=h;obtain⟨u,rfl,ru⟩:=rv.one;cases ru;obtain⟨its,r,pl,hz⟩:=I.list hq;have hi:=MP.BL r;have hl:its.length=ns.length:=by have:=r.length;simpa using this.symm
 refine sorted_ints pl.isList hi (by omega) λout ns' a1 a2 a3=>?_
 obtain⟨e,he⟩:=sortedAll_at s.heap its out;have en:ns'=srt ns:=rK (a2.trans (iW ns).symm) a3 (vz ns);subst en;have fresh:H (s.heap.objs.size+1)=none:=I.hok.fresh (ZbO _);refine⟨.ref (s.heap.objs.size+1),upd H (s.heap.objs.size+1) (.lst ((srt ns).map V.int)),I.laid (t':=s.toks) (λb o=>sortedAll_old) (ZbO _) ⟨?_,out.toList,e,wX a1,by rw[Array.toArray_toList];exact he⟩,rfl,q _ fresh⟩
 rw[Zab,(iW ns).length_eq];exact ZaI (ZaB h64) (by decide)
end
namespace MP
def Cu(l:List PV):Option (Res PV):=match iM l with
 |some ns=>if ns.length<64 then some (.ok (.lst ((srt ns).map .int))) else none
 |none=>none
section
variable{K:Frag}{C:Cg}
theorem Zg:R1O K C (aV K) (XX K) Cu:=by
 intro F H x a res Q s ha e P;unfold Cu at e;cases h:iM a with
 |none=>rw[h] at e;cases e
 |some ns=>
  rw[h] at e;have e:(if ns.length<64 then some (Res.ok (PV.lst ((srt ns).map .int))) else none)=some res:=e;split at e
  ·rename_i h64;cases e;obtain⟨b,xs,rfl,h1,r1⟩:=ha;have ex:xs=ns.map V.int:=FT h r1;subst ex;exact⟨b,ns,rfl,h1,h64,λl hl=>P l F _ (Up.zW s hl) hl (s.free hl) ⟨_,aP,bR.wI _⟩⟩
  ·cases e
end
end MP
def Itp(a:Addr)(raw:Obj)(kvs:List (Key×V)):It:=
 ⟨λi H=>H a=some (.frz raw (.dK kvs))/\i<kvs.length,λi H x H'=>∃ p kv,H p=none/\kvs[i]?=some kv/\x=.ref p/\H'=upd H p (.tup [kV kv.1,kv.2]),λi H=>H a=some (.frz raw (.dK kvs))/\i=kvs.length⟩
theorem Zh{P:Program}{w:World}{kvs:List (Key×V)}{vs:List (Key×Value)}(r:KV kvs vs){i:Nat}{p:Key×V}(e:kvs[i]?=some p):∃ u,vs[i]?=some (p.1,u)/\RelV p.2 u:=by
 induction r generalizing i with
 |nil=>cases i<;>cases e
 |@cons a b as bs h t ih=>
  cases i with
  |zero=>
   cases e;obtain⟨b1,b2⟩:=b;obtain⟨h1,h2⟩:=h;exact⟨b2,by rw[List.getElem?_cons_zero,h1],h2⟩
  |succ i=>rw[Zcr] at e;obtain⟨u,q1,q2⟩:=ih e;exact⟨u,by rw[Zcr];exact q1,q2⟩
theorem Nf{P:Program}{w:World}{K:Frag}{elts:List Expr}{x1:Nat}{pos:Pos}(a it:Addr)(raw:Obj)(kvs:List (Key×V)){es:Array DictEntry}{ep:Nat}(hd:raw.data=.dict es ep) :
  Turn P w K (.Tuple elts x1 pos) (Itp a raw kvs) [it] it (λi h=>∃ ok ov,IsItemIter h it a i kvs.length ep ok ov) where
 mem:=by simp
 obj:=λi h st b hb=>by
  have e:b=it:=by simpa using hb
  subst e;obtain⟨ok,ov,e⟩:=st;exact⟨_,e,λv z=>by cases z⟩
 keep:=λi h h' st k=>by
  obtain⟨ok,ov,e⟩:=st;exact⟨ok,ov,k it (by simp) _ e⟩
 item:=by
  intro X hP hw hK hc i pins s O H E I hf st hg;subst hP hw hK;obtain⟨e,hi⟩:=hg;obtain⟨ok,ov,ei⟩:=st;obtain⟨f0,f1,f2,f3,f4,f5⟩:=hf it (by simp)
  obtain⟨_,vs,kv,dd⟩:=tH I.hok e hd;have hl:=kv.length;obtain⟨p,hp⟩:∃ p,kvs[i]?=some p:=⟨_,Zae hi⟩;obtain⟨u,hu,ru⟩:=Zh (P:=X.prog) (w:=X.w) kv hp;refine wpAny_pyNext_items_item (knd:=bV X.prog X.w) (by rw[<-hl];exact ei) dd hu λkey h3 hk e3 n3 sz3 k3=>?_
  refine⟨_,rfl,wpAny_letOwnedTupleGo_items e3 λh4 e4 s4=>?_⟩;have ilt:it<s.heap.objs.size:=Zat ei;have hT2:IsPair h4 s.heap.objs.size key u:=(s4.2 _ (Zb5 ilt)).trans n3;refine⟨.ref s.heap.objs.size,upd H s.heap.objs.size (.tup [kV p.1,p.2]),I.sZ (ch:=[it]) (λb' o hb q=>?_) hf (Zal _) ⟨by show 2<=sizeLine;decide,[key,u],.cons (Ht hk) (.cons ru .nil),gA.mk hT2⟩,rfl,⟨_,p,I.hok.fresh (Zal _),hp,rfl,rfl⟩,⟨key,u,by rw[hl];exact e4⟩,λb' hb=>?_⟩
  ·have q1:b'≠it:=λe=>hb (by simp[e])
   exact(s4.2 b' q1).trans (k3 b' o q1 q)
  ·have e:b'=it:=by simpa using hb
   subst e;rw[aL (ZaE ilt)];exact f0
 done:=by
  intro X hP hw hK hc i pins s O H E I hf st hg;subst hP hw hK;obtain⟨e,hi⟩:=hg;obtain⟨ok,ov,ei⟩:=st;obtain⟨_,vs,kv,dd⟩:=tH I.hok e hd;have hl:=kv.length;refine wpAny_pyNext_items_end (knd:=bV X.prog X.w) (I.ok.hd hc) (by rw[<-hl];exact ei) dd (by rw[ZbP];omega) λh' k=>⟨rfl,?_⟩
  exact I.sY (t':=s.toks) (ch:=[it]) (λb' o hb q=>k b' o (λe=>hb (by simp[e])) q) hf
 self:=λA i s Q E st h=>by
  obtain⟨ok,ov,e⟩:=st;exact PySem.W.kcp_self e h
def Uo(tl:TE):TI:=λO H R=>tl O H λx H1=>∃ a raw kvs,x=.ref a/\H1 a=some (.frz raw (.dK kvs))/\R (Itp a raw kvs) H1
theorem Uq{X:Cx}{o:Expr}{apos cpos tpos:Pos}{elts:List Expr}{x1:Nat}{tl:TE}(hl:PE X o tl)(hbase:attributeBase o "items" X.env (eval o X.env)=eval o X.env:=by rfl)(hline:(apos.endLine==cpos.line)=true:=by rfl) :
  PI X (.Tuple elts x1 tpos) (.Call (.Attribute o "items" apos) [] [] cpos) (Uo tl):=by
 intro pins s O H R I h;refine wpAny_Call_method (T:="dict") (id:="dict.items") hbase rfl hline ZbD ZbW PySem.F.type_dict_items (thn (hl pins s O H _ I h) ?_);rintro u s1 ⟨x,H1,I1,rx,q1⟩;obtain⟨a,raw,kvs,e,ha,q⟩:=q1;subst e;obtain rfl:u=Value.ref a:=rx;obtain⟨t1,t2,_⟩:=Bj I1 (.inl ⟨kvs,.inr ⟨raw,ha⟩⟩);refine⟨t1,t2,?_⟩;obtain⟨es,ep,hd⟩:∃ es ep,raw.data=.dict es ep:=by
  obtain⟨hr,_,hs,vs,kv,o,es',ep',h1,h2,h3,h4⟩:=(show dB X.prog X.w H1 s1.heap a (.frz raw (.dK kvs)) from I1.hok a _ ha);rw[hr] at h1;cases h1;exact⟨_,_,h3⟩
 obtain⟨hs,vs,kv,dd⟩:=tH I1.hok ha hd;show wpAny _ _ (callWith cpos (.builtin "dict.items") [.ref a] [] []) _ _ s1
 refine method_meetsIn ZbW PySem.F.entry_dict_items rfl (PySem.evalArgs_none ⟨rfl,t1,ZcO _,_,meets_dict_items (bV X.prog X.w) a hs,⟨vs,Heap.DictAt.dictOf dd⟩,?_⟩);have hsz:(s1.heap.push { cls:=.type "dict_items",data:=.fields #[.ref a] }).objs.size=s1.heap.objs.size+1:=Heap.size_push ..;refine wpAny_pyIter_items (knd:=bV X.prog X.w) (d:=a) (kvs:=vs) (ep:=ep) ⟨_,Zar _ rfl,rfl,rfl⟩ (dd.push _) ?_;refine⟨(s1.heap.push { cls:=.type "dict_items",data:=.fields #[.ref a] }).objs.size,[(s1.heap.push { cls:=.type "dict_items",data:=.fields #[.ref a] }).objs.size],_,_,H1,rfl,I1.kept (t':=s1.toks) λb o e=>Zai _ (Zai _ e),Nf a _ raw kvs hd,⟨.none,.none,?_⟩,λb hb=>?_,q⟩
 ·rw[kv.length];exact Zar _ rfl
 ·have e:b=s1.heap.objs.size+1:=by simpa[hsz] using hb
  subst e;exact I1.Ej (ZbO _) (I1.hok.fresh (ZbO _))
namespace MP
def vA(l:List (Key×PV)):List PV:=l.map λkv=>.tup [JN kv.1,kv.2]
def Cv:PV->Option (Res (List PV))
 |.dk l=>some (.ok (vA l))
 |_=>none
section
variable{K:Frag}{C:Cg}
theorem Rk(i:Nat):Rj K C i (Uo (mj i)) (m1 Cv (mV i)):=by
 intro F H O Z R' r R hh e P;rcases bW e with⟨z,e1,rfl⟩|⟨p,e1,hk⟩
 ·unfold mV at e1;split at e1
  ·cases e1
  ·cases e1
 obtain⟨a,raw,u,ev,fa,hu⟩:=hh;have hp:Z[i]?=some (some (.sh p)):=by
  unfold mV at e1;split at e1
  ·rename_i q hq;cases e1;exact hq
  ·cases e1
 match p,hk with
 |.dk l,hk=>
  cases hk;obtain⟨v,ev',rv⟩:=R.sh i _ hp;rw[ev] at ev';cases ev';cases rv with
  |@dk _ xs _ h hl hr=>
   have hx:u=.dK xs:=by
    rcases h with h|⟨o,h⟩
    ·rw[fa] at h;cases h
    ·rw[fa] at h;cases h;rfl
   subst hx;have len:xs.length=l.length:=by have:=Za3 List.length hl;simpa using this
   refine⟨_,ev,a,raw,xs,rfl,R.rb.sub _ _ fa,P _ F H (Up.refl R.rb.sub) ⟨λF' H' s s'=>?_,λj F' H' hj s s'=>?_,λj F' H' x H'' hj s s' y=>?_⟩⟩
   ·exact⟨s' _ _ (s _ _ fa),by unfold vA;rw[Zab];exact len.symm⟩
   ·refine⟨s' _ _ (s _ _ fa),?_⟩;unfold vA at hj;rw[Zab] at hj;omega
   ·obtain⟨p,kv,hp,hkv,rfl,rfl⟩:=y;have hl2:(l.map (·.1))[j]?=some kv.1:=by rw[<-hl,Zad,hkv];rfl
    rw[Zad] at hl2;cases q:l[j]? with
    |none=>rw[q] at hl2;cases hl2
    |some w=>
     rw[q] at hl2;have ew:w.1=kv.1:=Zaf hl2;have un:=Up.new (o:=.tup [kV kv.1,kv.2]) s' hp;refine⟨_,.tup [JN w.1,w.2],un,?_,.tup aP rfl λn x p' hx hp'=>?_⟩
     ·unfold vA;rw[Zad,q];rfl
     ·match n with
      |0=>simp at hx hp';subst hx hp';rw[ew];exact Hu
      |1=>simp at hx hp';subst hx hp';exact(hr j _ _ hkv q).up (s.trans un.ff)
      |n+2=>simp at hx
end
end MP
def pJ:List Key->Option (List Int)
 |[]=>some []
 |.inl n::ks=>(pJ ks).map (n::·)
 |.inr _::_=>none
theorem wY:∀ {ks:List Key}{ns:List Int},pJ ks=some ns->ns.length=ks.length
 |[],ns,e=>by cases e;rfl
 |.inl n::ks,ns,e=>by
  simp only[pJ,Zbl] at e;obtain⟨ms,e,rfl⟩:=e;simp[wY e]
 |.inr _::_,ns,e=>by cases e
theorem wZ{P:Program}{w:World}:∀ {ks:List Key}{ns:List Int}{vs:List Value},pJ ks=some ns->vs.length=ks.length->(∀ (j:Nat) v,vs[j]?=some v->∃ k,ks[j]?=some k/\(bV P w).is k v=true)->IntsAre vs ns
 |[],ns,vs,e,hl,h=>by
  cases e;cases vs with
  |nil=>exact .nil
  |cons v vs=>cases hl
 |.inl n::ks,ns,vs,e,hl,h=>by
  simp only[pJ,Zbl] at e;obtain⟨ms,e,rfl⟩:=e;cases vs with
  |nil=>cases hl
  |cons v vs=>
   obtain⟨k,e0,hk⟩:=h 0 v rfl;cases e0;obtain⟨t,rfl⟩:RelV (kV (.inl n)) v:=Ht hk;exact .cons n t (wZ (P:=P) (w:=w) e (by simpa using hl) λj v hv=>h (j+1) v hv)
 |.inr _::_,ns,vs,e,hl,h=>by cases e
theorem w5{h:Heap}{vs:List Value}{out:Array Value}{b:Addr}{o:Obj}(hb:h.get? b=some o):(sortedHeap (h.push (seqObj "list" vs.toArray 0)) h.objs.size vs out).get? b=some o:=by
 have hlt:b<h.objs.size:=Zat hb;rw[sortedHeap_old (ZaE hlt) (by rw[size_push'];exact ZcR hlt)]
 exact Zai _ hb
def Ur:List V->Hp->VK->Prop:=λxs H Q=>∃ p kvs ns,xs=[.ref p]/\Rd H p (.dK kvs)/\pJ (kvs.map (·.1))=some ns/\ns.length<64/\∀ l,H l=none->Q (.ref l) (upd H l (.lst ((srt ns).map V.int)))
section
variable{X:Cx}
theorem Hv(hc:X.calm=true):mW X (.builtin "sorted") Ur:=by
 intro pins s O H xs us Q I rv h;obtain⟨p,kvs,ns,rfl,e,hk,h64,q⟩:=h;obtain⟨u,rfl,ru⟩:=rv.one;cases ru;obtain⟨z,hd,vs,rel,dd⟩:=wB I.hok e;obtain⟨o,es,ep,d1,d2,d3,d4⟩:=dd;have hl:=rel.length;have hn:ns.length=kvs.length:=by have:=wY hk;simpa using this
 refine Zch kind_sorted plain_sorted entry_sorted (args_sorted1 _) ?_;unfold Builtin.«sorted»;refine Zaa (m:=checkCount "sorted" 1 1 _) (Zaj ?_);refine Zaa (PySem.W.kdu_collect (PySem.W.kdl_dict (knd:=bV X.prog X.w) (kvs:=vs) (ep:=ep) hd) (I.ok.hd hc) ⟨o,es,d1,d2,d3,d4⟩ (by omega) λh' tk acc hold hacc=>?_)
 have hla:acc.toList.length=vs.length:=by rw[ZaZ];exact hacc.1
 have hia:IntsAre acc.toList ns:=wZ (P:=X.prog) (w:=X.w) hk (by rw[hla,Zab,hl]) λj v hv=>by
  obtain⟨k,x,q1,q2⟩:=hacc.2 j v (by rw[<-Zbm];exact hv)
  refine⟨k,?_,q2⟩;rw[rel.keys,Zad,q1];rfl
 refine Zaa (wpAny_newList ?_ (by rw[hla];omega))
 have hoL:(h'.push (seqObj "list" acc.toList.toArray 0)).get? h'.objs.size=some (seqObj "list" acc.toList.toArray 0):=Zar _ rfl;show wpAny _ _ _ _ _ { s with heap:=h'.push (seqObj "list" acc.toList.toArray 0),toks:=tk }
 refine Zaa (wpAny_holding (wpAny_call_entry slot_list_sort ⟨_,hoL,rfl⟩ entry_list_sort (list_sort_tree hoL hia (by omega) λout ns' a1 a2 a3=>⟨_,rfl,?_⟩) (args_list_sort _)))
 refine Zaj ⟨_,rfl,?_⟩;obtain⟨e',he⟩:=sortedHeap_at (out:=out) hoL;have en:ns'=srt ns:=rK (a2.trans (iW ns).symm) a3 (vz ns);subst en;have I1:Inv X pins O H { s with heap:=h',toks:=tk }:=I.kept hold;have fresh:H h'.objs.size=none:=I1.hok.fresh (Zal _);refine⟨.ref h'.objs.size,upd H h'.objs.size (.lst ((srt ns).map V.int)),I1.laid (t':=tk) (λb o=>w5) (Zal _) ⟨?_,out.toList,e',wX a1,by rw[Array.toArray_toList];exact he⟩,rfl,q _ fresh⟩
 rw[Zab,(iW ns).length_eq];exact ZaI (ZaB h64) (by decide)
end
namespace MP
def w6:PV->Option (Res PV)
 |.dk l=>match pJ (l.map (·.1)) with
  |some ns=>if ns.length<64 then some (.ok (.lst ((srt ns).map .int))) else none
  |none=>none
 |_=>none
section
variable{K:Frag}{C:Cg}
theorem WD:R1O K C (aD K) Ur w6:=by
 intro F H x a res Q s ha e P
 match a,e with
 |.dk l,e=>
  obtain⟨_,ad,rfl,xs,h1,h2,h3⟩:=ha;replace e:(match pJ (l.map (·.1)) with
   |some ns=>if ns.length<64 then some (Res.ok (PV.lst ((srt ns).map .int))) else none
   |none=>none)=some res:=e
  cases h:pJ (l.map (·.1)) with
  |none=>rw[h] at e;cases e
  |some ns=>
   rw[h] at e;have e:(if ns.length<64 then some (Res.ok (PV.lst ((srt ns).map .int))) else none)=some res:=e;split at e
   ·rename_i h64;cases e;exact⟨ad,xs,ns,rfl,h1,by rw[h2];exact h,h64,λl' hl=>P l' F _ (Up.zW s hl) hl (s.free hl) ⟨_,aP,bR.wI _⟩⟩
   ·cases e
end
end MP
end L2
namespace L2.MP
open PySem PySem.Spec PyProof.Rows
section
variable{K:Frag}{C:Cg}{te:TE}{F F' G H H1 H':Hp}{O:St}{Z:Rho}{D:Ends}{t:TS}{f:Sn}{o:Out}{S:Addr->Prop}{v:V}{p:PV}
theorem Rep.rA:∀ {n:Nat}{v:V}{p:PV},Rep K F v p->MP.rA n p=true->(∀ b ys,F b=some (.tup ys)->G b=some (.tup ys))->Rep K G v p
 |0,v,p,h,hs,g=>h.free hs
 |n+1,v,p,h,hs,g=>by
  cases h with
  |non=>exact .non
  |bl=>exact .bl
  |int=>exact .int
  |str=>exact .str
  |ty=>exact .ty
  |tup h hl hr=>exact .tup (g _ _ h) hl λj x p a b=>(hr j x p a b).rA (n:=n) (ZaP.mp hs p (Zah b)) g
  |lst=>cases hs
  |dk=>cases hs
  |dt=>cases hs
  |exc=>cases hs
  |exc0=>cases hs
theorem Dp.toG(d:Dp K F H S v p)(g:∀ b ys,F b=some (.tup ys)->G b=some (.tup ys)):Dp K G H S v p:=by
 induction d with
 |fr h st=>exact .fr (h.rA st g) st
 |lst h hp hs dj hl _ ih=>exact .lst h hp hs dj hl ih
 |tup h hs dj hl _ ih=>exact .tup h hs dj hl ih
 |dk h hp hs dj hl _ ih=>exact .dk h hp hs dj hl ih
 |dt h hp hs dj hl _ ih=>exact .dt h hp hs dj hl ih
def Cw(m:List PV->Option (Res PV))(f:Fn (List PV)):Fn PV:=λZ=>bnd (f Z) λl=>match m l with
 |some (.ok p)=>some (.ok p)
 |_=>none
theorem J2{t:TA}{f:Fn (List PV)}{m:List PV->Option (Res PV)}(h:MAL K C t f):MD K C (wj (spD K C.XR m) [] C.E t) (Cw m f):=by
 intro F H O Z Q r R e P;refine h.run R e P λl xs F1 H1 hk u a=>?_;split at hk
 ·rename_i p hp;cases hk;refine⟨l,H1,.ok p,aU.refl _,by rw[Za1];exact a,hp,λv F' H' S u' d n=>?_⟩
  have s1:aU F1 H':=u.fh.trans u'.hh;refine P v (ul F1 H' λ_=>False) H' S ⟨u.ff.trans (iw s1),u.hh.trans u'.hh,λb o q=>?_,pI s1⟩ (d.toG λb ys q=>?_) λb q=>?_
  ·by_cases hb:False\/∃ ys,H' b=some (.tup ys)
   ·rw[gf hb] at q;obtain⟨ys,z⟩:=hb.resolve_left id;rw[z] at q;cases q;exact .inr (.inr ⟨ys,rfl⟩)
   ·rw[fB hb] at q;exact u.fr b o q
  ·have:=u'.fh _ _ q;rw[gf (.inr ⟨ys,this⟩)];exact this
  ·obtain⟨n1,n2,o,n3,n4⟩:=n b q;refine⟨u.hh.free n1,?_,o,n3,n4⟩;rw[fB]
   ·exact u.fh.free n1
   ·rintro(z|⟨ys,z⟩)
    ·exact z
    ·rw[n3] at z;cases z;exact n4 ys rfl
 ·cases hk
def uA(i:Nat)(f:Sn):Sn:=λZ=>match rH i Z with
 |some p=>f (Z.set i (some (.sh p)))
 |none=>none
theorem xf(i:Nat)(h:MS K C t f):MS K C t (uA i f):=by
 intro F H O Z D o R e P;unfold uA at e;split at e
 ·rename_i p hp;obtain⟨S,v,_,_,_,R'⟩:=R.Ug (du hp);exact h _ H O _ D o R' e (P.up (iw R.rb.sub))
 ·cases e
def aaQ(C:Cf)(js:List Nat)(Z:Rho)(O:St)(H F' H':Hp)(S:Addr->Prop):Prop:=∀ b,S b->(H b=none\/∃ i p,i∈js/\Z[i]?=some (some (.ow p))/\O[i]?=some (some (.ref b)))/\F' b=none/\(∃ o,H' b=some o/\∀ ys,o≠.tup ys)/\C.H0 b=none
def MDo(K:Frag)(C:Cg)(js:List Nat)(ta:TA)(f:Fn (List PV)):Prop:=
 ∀ F H O Z Q r,RE K C.toCf F H O Z->f Z=some r->Pr C F (λl=>∀ xs F' H' S,Up F H F' H'->Dps K F' H' S xs l->aaQ C.toCf js Z O H F' H' (λb=>∃ j,S j b)->Q xs H') r->ta O H Q
theorem xg:MDo K C [] uX bc:=λF H O Z Q r R e P=>by
 cases e;exact P [] F H (λ_ _=>False) (Up.refl R.rb.sub) ⟨rfl,λ_ _ _ q=>q.elim,λj x p e=>by simp at e⟩ λb ⟨_,q⟩=>q.elim
theorem rM{js:List Nat}{fe:Fn PV}{fs:Fn (List PV)}{ts:TA}(h:MD K C te fe)(hs:MDo K C js ts fs):MDo K C js (jU te ts) (az fe fs):=by
 intro F H O Z Q r R e P;rcases bW e with⟨z,e1,rfl⟩|⟨p,e1,hk⟩
 ·exact h F H O Z _ _ R e1 P
 refine h F H O Z _ _ R e1 λv F1 H1 S u d n=>?_;rcases bW hk with⟨z,e2,rfl⟩|⟨l,e2,hk2⟩
 ·exact hs F1 H1 O Z _ _ (R.up u) e2 (PX.up P u.ff)
 refine hs F1 H1 O Z _ _ (R.up u) e2 λxs F2 H2 S2 u2 d2 n2=>?_;cases hk2;have ap:∀ b j,S b->S2 j b->False:=λb j a1 a2=>by
  obtain⟨c0,_,o,c1,_⟩:=n b a1;rcases(n2 b ⟨j,a2⟩).1 with c2|⟨i,q,_,c2,c3⟩
  ·rw[c1] at c2;cases c2
  ·exact R.apart c0 i q c2 c3
 refine P (v::xs) F2 H2 (λj b=>match j with|0=>S b|j+1=>S2 j b) (u.trans u2) ⟨by simp[d2.1],λi j b a1 a2=>?_,λj x q a1 a2=>?_⟩ ?_
 ·match i,j,a1,a2 with
  |0,0,_,_=>rfl
  |0,j+1,a1,a2=>exact(ap b j a1 a2).elim
  |i+1,0,a1,a2=>exact(ap b i a2 a1).elim
  |i+1,j+1,a1,a2=>exact Za3 (·+1) (d2.2.1 i j b a1 a2)
 ·match j,a1,a2 with
  |0,a1,a2=>cases a1;cases a2;exact d.stay u2
  |j+1,a1,a2=>exact d2.2.2 j x q (by simpa using a1) (by simpa using a2)
 ·rintro b ⟨j,q⟩
  match j,q with
  |0,q=>
   obtain⟨c0,c1,o,c2,c3⟩:=(n.up u2) b q;exact⟨.inl c0,c1,⟨o,c2,c3⟩,R.rb.wK c0⟩
  |j+1,q=>
   obtain⟨c1,c2⟩:=n2 b ⟨j,q⟩;exact⟨c1.imp (λz=>u.hh.free z) id,c2⟩
def PV.mH:PV->Bool
 |.lst l=>l.all PV.still
 |.dk l=>l.all λkv=>kv.2.still
 |.dt l=>l.all λkv=>kv.2.still
 |_=>false
def nj(i:Nat):Fn PV:=λZ=>match ownAt i Z with
 |some p=>if p.mH=true then some (.ok p) else none
 |none=>none
theorem Own.dp{a:Addr}(w:Own K F H a p)(h:p.mH=true):Dp K F H (λb=>b=a) (.ref a) p:=by
 cases p with
 |lst l=>
  obtain⟨xs,e2,e3⟩:=w;exact .lst (S:=λ_ _=>False) e2 rfl (λj b q=>q.elim) (λi j b q=>q.elim) e3.1 λj x p e4 e5=>.fr (e3.2 j x p e4 e5) (ZaP.mp h p (Zah e5))
 |dk l=>
  obtain⟨xs,e2,e3,e4⟩:=w;exact .dk (S:=λ_ _=>False) e2 rfl (λj b q=>q.elim) (λi j b q=>q.elim) e3 λj x p e5 e6=>.fr (e4 j x p e5 e6) (ZaP.mp h p (Zah e6))
 |dt l=>
  obtain⟨xs,e2,e3,e4⟩:=w;exact .dt (S:=λ_ _=>False) e2 rfl (λj b q=>q.elim) (λi j b q=>q.elim) e3 λj x p e5 e6=>.fr (e4 j x p e5 e6) (ZaP.mp h p (Zah e6))
 |_=>cases h
theorem mJ{js:List Nat}(i:Nat){fs:Fn (List PV)}{ts:TA}(hio:∀ a,¬C.io a)(hi:i ∉ js)(hs:MDo K C js ts fs):MDo K C (i::js) (jU (mj i) ts) (az (nj i) fs):=by
 intro F H O Z Q r R e P;rcases bW e with⟨z,e1,rfl⟩|⟨p,e1,hk⟩
 ·unfold nj at e1;split at e1
  ·split at e1<;>cases e1
  ·cases e1
 have hp:Z[i]?=some (some (.ow p))/\p.mH=true:=by
  unfold nj at e1;split at e1
  ·rename_i q hq;split at e1
   ·rename_i sh;cases e1;exact⟨bO hq,sh⟩
   ·cases e1
  ·cases e1
 obtain⟨a,ea,w,na,e4⟩:=R.ow i p hp.1;refine⟨_,ea,?_⟩;rcases bW hk with⟨z,e2,rfl⟩|⟨l,e2,hk2⟩
 ·exact hs F H O Z _ _ R e2 P
 refine hs F H O Z _ _ R e2 λxs F2 H2 S2 u2 d2 n2=>?_;cases hk2;obtain⟨a',ea',w2,na2,_⟩:=(R.up u2).ow i p hp.1;rw[ea] at ea';cases ea';obtain⟨ob,eob⟩:=w.ne;have ap:∀ j,S2 j a->False:=λj q=>by
  rcases(n2 a ⟨j,q⟩).1 with c|⟨k,q',hk',c2,c3⟩
  ·rw[eob] at c;cases c
  ·have:=R.dis i k p q' a hp.1 c2 ea c3;subst this;exact hi hk'
 refine P (.ref a::xs) F2 H2 (λj b=>match j with|0=>b=a|j+1=>S2 j b) u2 ⟨by simp[d2.1],λi j b a1 a2=>?_,λj x q a1 a2=>?_⟩ ?_
 ·match i,j,a1,a2 with
  |0,0,_,_=>rfl
  |0,j+1,a1,a2=>cases a1;exact(ap j a2).elim
  |i+1,0,a1,a2=>cases a2;exact(ap i a1).elim
  |i+1,j+1,a1,a2=>exact Za3 (·+1) (d2.2.1 i j b a1 a2)
 ·match j,a1,a2 with
  |0,a1,a2=>cases a1;cases a2;exact w2.dp hp.2
  |j+1,a1,a2=>exact d2.2.2 j x q (by simpa using a1) (by simpa using a2)
 ·rintro b ⟨j,q⟩
  match j,q with
  |0,q=>
   cases q;obtain⟨ob2,eob2⟩:=w2.ne;exact⟨.inr ⟨i,p,Zaw,hp.1,ea⟩,na2,⟨ob2,eob2,λys z=>by subst z;exact w2.zq eob2⟩,(e4.resolve_left (hio a)).2⟩
  |j+1,q=>
   obtain⟨c1,c2⟩:=n2 b ⟨j,q⟩;exact⟨c1.imp id λ⟨k,q',hk',z⟩=>⟨k,q',Zaq _ hk',z⟩,c2⟩
def zB(fs:Fn (List PV)):Sn:=λZ=>gw (fs Z) λl=>if l.length<=sizeLine then some (.rd (.tup l)) else none
theorem xm{js:List Nat}{fs:Fn (List PV)}{ts:TA}(h:MDo K C js ts fs):MS K C (QG (Yy ts)) (zB fs):=by
 intro F H O Z D o R e P;rcases dg e with⟨z,e1,rfl⟩|⟨l,e1,hk⟩
 ·exact h F H O Z _ _ R e1 P
 split at hk
 ·rename_i hl;cases hk;refine h F H O Z _ _ R e1 λxs F1 H1 S u d n=>⟨by rw[d.1];exact hl,λa ha=>?_⟩
  have u2:Up F1 H1 F1 (upd H1 a (.tup xs)):=⟨aU.refl _,fj ha,λ_ _ q=>.inl q,λb o q=>by rw[aL (λz=>by subst z;have:=u.fh _ _ q;rw[ha] at this;cases this)];exact u.fh b o q⟩
  refine P (.ref a) F1 _ (λb=>∃ j,S j b) u.ff (R.rb.up (u.trans u2)) (.tup aP (λj b q=>⟨j,q⟩) d.2.1 d.1 λj x p a1 a2=>(d.2.2 j x p a1 a2).stay u2) λb q=>?_;obtain⟨_,c1,⟨o,c2,c3⟩,c4⟩:=n b q;exact⟨c1,⟨o,u2.hh _ _ c2,c3⟩,c4⟩
 ·cases hk
end
open PySem PySem.Spec PyProof PyProof.Rows
end L2.MP
namespace L2
open PySem PySem.Spec PyProof PyProof.Rows
def um(h:Heap)(d:Addr)(es:Array DictEntry)(ep:Nat):Prop:=∃ o,h.get? d=some o/\o.ExactDict/\o.data=.dict es ep
section
variable{prog:Program}{w:World}{A:Around}{E:Value->Shared->Prop}{s:Shared}{h h':Heap}{d it:Addr}{es:Array DictEntry}{ep i:Nat}
theorem um.step(r:um h d es ep)(k:∀ o,h.get? d=some o->h'.get? d=some o):um h' d es ep:=by
 obtain⟨o,e,q⟩:=r;exact⟨o,k o e,q⟩
theorem um.small(r:um h d es ep):d<h.objs.size:=by obtain⟨o,e,_⟩:=r;exact Zat e
theorem um.ty(r:um s.heap d es ep):s.TypeIs (.ref d) "dict":=by
 obtain⟨o,e,c,_⟩:=r;exact⟨o,e,c.1⟩
theorem J3{Q:Value->Shared->Prop}(nd:(d==sysModules)=false)(r:um s.heap d es ep)
  (q:Q (.ref s.heap.objs.size) { s with heap:=s.heap.push { cls:=.type "dict_keyiterator",data:=.fields #[.ref d,.int 0 0,.int es.size 0,.int ep 0] } }):wpAny (model prog w) A (pyIter (.ref d)) Q E s:=by
 obtain⟨o,e1,e2,e3⟩:=id r;refine wpAny_pyIter_slot r.ty PySem.F.slot_dict_iter (wpAny_call_entry PySem.F.slot_dict_iter r.ty PySem.F.entry_dict_iter ?_ (PySem.F.args_dict_iter_1 _));unfold Builtin.«dict.__iter__»;refine Zaa (m:=Builtin.Dict.dictSlotNone _ _) ?_;unfold Builtin.Dict.dictSlotNone;refine Zaa (wpAny_notOrdered_dict r.ty (Zaj ?_));show wpAny _ _ (Builtin.Dict.showsAll d>>=_) _ _ _
 unfold Builtin.Dict.showsAll;rw[nd,Zam Zbk];refine Zaa (Zaj (Zaa (wpAny_dictEntries e1 e3 (Zaa (wpAny_dictEpoch e1 e3 ?_)))));refine Zaa (Za5 (Zaj ⟨_,rfl,"dict_keyiterator",_,⟨_,Zar _ rfl,rfl⟩,Zbc.lookup,?_⟩));simpa[rawInt] using q
theorem Us{Q:Option Value->Shared->Prop}{x:DictEntry}(hi:s.heap.IsKeyIter it d i es.size ep)(r:um s.heap d es ep)(hx:es[i]?=some x)
  (q:∀ h',h'.IsKeyIter it d (i+1) es.size ep->Heap.SameBut it s.heap h'->Q (some x.key) { s with heap:=h' }):wpAny (model prog w) A (pyNext (.ref it)) Q E s:=by
 obtain⟨io,i1,i2,i3⟩:=id hi;obtain⟨o,e1,e2,e3⟩:=id r;have lt:i<es.size:=by
  rcases Zc3 i es.size with z|z
  ·exact z
  ·rw[Zb2 z] at hx;cases hx
 have ex:es[i]=x:=by rw[ZaS lt] at hx;exact Zaf hx
 unfold pyNext;refine Zaa (wpAny_attempt (wpAny_callSpecial?_slot (name:=Str.ofString "__next__") hi.typeIs Zbc (wpAny_call_entry Zbc hi.typeIs Zcn ?_ (Zci _))));refine Zaa (Zaj (Zaa (Zaa ?_)))
 first
  |refine Zaa (wpAny_typeNameOfWhole_keyiter hi.typeIs (Zaj ?_))
  |refine Zaa (wpAny_typeNameOf_keyiter hi.typeIs (Zaj ?_))
 refine Zaa (wpAny_fieldsOf i1 i3 ?_);simp only[show Builtin.Dict_items.ownsTuple "dict_keyiterator"=false by decide,Zbs,Zba]
 show wpAny _ _ (if(Value.ref d==.none)=true then _ else _) _ _ _
 rw[Zam (show ¬(Value.ref d==.none)=true from Zbk)];refine Zaa (Zaj (Zaa (wpAny_dictEntries e1 e3 ?_)));rw[Zam (by simp)]
 refine Zaa (Zaj (Zaa (wpAny_dictEpoch e1 e3 ?_)));rw[Zam (by simp)]
 refine Zaj ?_;simp only[show ¬((i:Int)<0) by lia,Zba,ZaD,ZaS lt]
 refine Zaa ?_
 first
  |refine Zaa (wpAny_typeNameOfWhole_keyiter hi.typeIs (Zaj ?_))
  |refine Zaa (wpAny_typeNameOf_keyiter hi.typeIs (Zaj ?_))
 refine Zaa (wpAny_isOneOf_keyiter hi.typeIs ?_);show wpAny _ _ (setField (.ref it) 1 (rawInt ((i:Int)+1))>>=_) _ _ _
 refine Zaa (wpAny_setField i1 i3 (by simp) ?_)
 have next:(s.heap.update it (Obj.mapFields (·.setIfInBounds 1 (rawInt ((i:Int)+1))))).IsKeyIter it d (i+1) es.size ep:=
  ⟨_,Heap.get?_update_self _ i1 (Obj.isFreed_of_fields (Obj.data_mapFields i3 _)),(Obj.cls_mapFields ..).trans i2,by rw[Obj.data_mapFields i3];simp[rawInt]⟩
 refine Zaa (wpAny_holding (Zaa (wpAny_isOneOf_keyiter (s:={ s with heap:=s.heap.update it (Obj.mapFields (·.setIfInBounds 1 (rawInt ((i:Int)+1)))) }) next.typeIs ?_)));show wpAny _ _ (pure es[i].key) _ _ _
 rw[ex];exact Zaj (Zaj ⟨_,rfl,Zaj (q _ next (ZbH ..))⟩)
theorem WF{Q:Option Value->Shared->Prop}(hh:A.handled=none)(hi:s.heap.IsKeyIter it d es.size es.size ep)(r:um s.heap d es ep)
  (q:∀ h',Heap.ExtBut it s.heap h'->Q none { s with heap:=h' }):wpAny (model prog w) A (pyNext (.ref it)) Q E s:=by
 obtain⟨io,i1,i2,i3⟩:=id hi;obtain⟨o,e1,e2,e3⟩:=id r;unfold pyNext;refine Zaa (wpAny_attempt (wpAny_callSpecial?_slot (name:=Str.ofString "__next__") hi.typeIs Zbc (wpAny_call_entry Zbc hi.typeIs Zcn ?_ (Zci _))));refine Zaa (Zaj (Zaa (Zaa ?_)))
 first
  |refine Zaa (wpAny_typeNameOfWhole_keyiter hi.typeIs (Zaj ?_))
  |refine Zaa (wpAny_typeNameOf_keyiter hi.typeIs (Zaj ?_))
 refine Zaa (wpAny_fieldsOf i1 i3 ?_);simp only[show Builtin.Dict_items.ownsTuple "dict_keyiterator"=false by decide,Zbs,Zba]
 show wpAny _ _ (if(Value.ref d==.none)=true then _ else _) _ _ _
 rw[Zam (show ¬(Value.ref d==.none)=true from Zbk)];refine Zaa (Zaj (Zaa (wpAny_dictEntries e1 e3 ?_)));rw[Zam (by simp)]
 refine Zaa (Zaj (Zaa (wpAny_dictEpoch e1 e3 ?_)));rw[Zam (by simp)]
 refine Zaj ?_;simp only[show ¬((es.size:Int)<0) by omega,Zba,ZaD,Zb2 (Zal _)]
 refine Zaa ?_
 first
  |refine Zaa (wpAny_typeNameOfWhole_keyiter hi.typeIs (Zaj ?_))
  |refine Zaa (wpAny_typeNameOf_keyiter hi.typeIs (Zaj ?_))
 show wpAny _ _ (setField (.ref it) 0 .none>>=_) _ _ _
 refine Zaa (wpAny_setField i1 i3 (by simp) ?_)
 show wpAny _ _ (newExc (.type "StopIteration") []>>=_) _ _ _
 refine Zaa ?_;simp only[newExc,newTuple];refine Zaa (Za5 ?_ (by size_fits))
 refine Zaa (m:=firstArgMember _ _) (wpAny_of_eq (a:=.none) (by first|rfl|(simp only[firstArgMember];rfl)) (Za5 ?_ (by size_fits)))
 simp only[raiseNew];refine Zaa (wpAny_handled ?_);rw[show A.in1.handled=none from hh];refine Zaa (Zaj (wpAny_throw ?_));refine Zaa (wpAny_isInstance (T:="StopIteration") (b:=true) ⟨_,Zar _ rfl,rfl⟩ isSubtype_stop ?_);exact Zaj (q _ (((ZbH ..).extBut.push _).push _))
theorem yJ(hh:A.handled=none)(I d:Addr)(ne:d≠I)(es:Array DictEntry)(ep:Nat) :
  Walks prog w A I [I,d] [I] es.size (λi v=>∃ x,es[i]?=some x/\v=x.key) (λi h=>h.IsKeyIter I d i es.size ep/\um h d es ep) where
 sub:=λb hb=>by simp at hb;simp[hb]
 frame:=λ_ _ _ z k=>⟨z.1.at λo e=>k I (by simp) o e,z.2.step λo e=>k d (by simp) o e⟩
 item:=λi s Q E lt z q=>Us z.1 z.2 (ZaS lt) λh' a b=>q _ h' s.toks ⟨_,ZaS lt,rfl⟩ ⟨a,z.2.step λo e=>b.extBut d o ne e⟩ λc o hc e=>b.extBut c o (λy=>hc (by simp[y])) e
 done:=λs Q E z q=>WF hh z.1 z.2 λh' b=>q h' s.toks λc o hc e=>b c o (λy=>hc (by simp[y])) e
 self:=λ_ _ _ _ z q=>wpAny_pyIter_keyiter z.1 q
theorem WK(nd:(d==sysModules)=false):PySem.W.KdlSrc prog w "dict" d d es.size (λi v=>∃ x,es[i]?=some x/\v=x.key) (λh=>um h d es ep) where
 type:=λ_ z=>z.ty
 there:=λ_ z=>⟨z.small,z.small⟩
 keep:=λ_ _ z k=>z.step λo e=>k d (.inl rfl) o e
 notList:=by decide
 notTuple:=by decide
 hint:=λ_ _ _ _ z q=>PySem.W.kdl_hint_dict z.ty q
 iter:=λ_ _ hh z=>⟨_,_,(λ_ _ q=>J3 nd z q),yJ hh _ d (ZaE z.small) es ep,⟨⟨_,Zar _ rfl,rfl,rfl⟩,z.step λ_ e=>Zai _ e⟩⟩
end
open PySem PySem.W PyProof.Rows
def eU{α:Type}(lt:Nat->Nat->Bool):KasT α->α
 |.ret a=>a
 |.ask i j k=>eU lt (k (lt i j))
def kIn{α:Type}(n:Nat)(P:α->Prop):KasT α->Prop
 |.ret a=>P a
 |.ask i j k=>i<n/\j<n/\∀ b,kIn n P (k b)
theorem kIn.then{α β:Type}{n:Nat}{P:α->Prop}{P':β->Prop}{f:α->KasT β}:∀ {t:KasT α},kIn n P t->(∀ a,P a->kIn n P' (f a))->kIn n P' (t.bind f)
 |.ret a,h,hf=>hf a h
 |.ask i j k,h,hf=>⟨h.1,h.2.1,λb=>kIn.then (h.2.2 b) hf⟩
theorem kIn.run{α:Type}{n:Nat}{P:α->Prop}{lt:Nat->Nat->Bool}{cmp:Nat->Nat->(Bool->Shared->Prop)->Shared->Prop}{Q:α->Shared->Prop}{s:Shared}(hc:∀ i j C,i<n->j<n->C (lt i j) s->cmp i j C s):∀ {t:KasT α},kIn n P t->Q (eU lt t) s->t.kasWp cmp Q s
 |.ret _,_,q=>q
 |.ask i j k,h,q=>hc i j _ h.1 h.2.1 (kIn.run hc (h.2.2 (lt i j)) q)
def Bd(n:Nat)(p:Array Nat):Prop:=∀ x∈p.toList,x<n
section
variable{n:Nat}{p:Array Nat}
theorem Bd.get(h:Bd n p)(n0:0<n)(i:Nat):p.getD i 0<n:=by
 by_cases hi:i<p.size
 ·have e:p.getD i 0=p[i]:=by simp[Array.getD,hi]
  rw[e];exact h _ (Array.getElem_mem_toList hi)
 ·have e:p.getD i 0=0:=by simp[Array.getD,hi]
  rw[e];exact n0
theorem Bd.perm{q:Array Nat}(h:Bd n p)(e:q.Perm p):Bd n q:=λx hx=>h x ((ZcJ.mp e).mem_iff.mp hx)
theorem Bd.rev(h:Bd n p)(i j:Nat):Bd n (kas_rev p i j):=h.perm (mirror_perm _ _ _ _)
theorem Ng(n0:0<n)(h:Bd n p):∀ f m,kIn n (λ_=>True) (kas_asc p f m)
 |0,_=>trivial
 |f+1,m=>⟨h.get n0 _,h.get n0 _,λb=>by
  cases b with
  |true=>exact trivial
  |false=>exact Ng n0 h f (m+1)⟩
theorem Ak(n0:0<n):∀ f (p:Array Nat) m q,Bd n p->kIn n (λr=>Bd n r.1) (kas_desc f p m q)
 |0,_,_,_,h=>h
 |f+1,p,m,q,h=>⟨h.get n0 _,h.get n0 _,λb=>by
  cases b with
  |true=>
   show kIn n _ (if q>0 then _ else _)
   split
   ·exact Ak n0 f _ _ _ (h.rev _ _)
   ·exact Ak n0 f _ _ _ h
  |false=>exact⟨h.get n0 _,h.get n0 _,λc=>by
   cases c with
   |true=>exact h
   |false=>exact Ak n0 f _ _ _ h⟩⟩
theorem J4(n0:0<n)(h:Bd n p)(a b:Nat):kIn n (λr=>Bd n r.2) (kas_tail3 a b p):=(Ng n0 (h.rev 0 a) _ _).then λ_ _=>h.rev 0 a
theorem zE(n0:0<n)(h:Bd n p)(a b:Nat):kIn n (λr=>Bd n r.2) (kas_descPart a b p):=(Ak n0 _ _ _ _ h).then λr hr=>by
 split
 ·exact J4 n0 (Bd.rev hr _ _) _ _
 ·exact J4 n0 hr _ _
theorem Ut(n0:0<n)(h:Bd n p)(b:Nat):kIn n (λr=>Bd n r.2) (kas_count b p):=(Ng n0 h _ _).then λm _=>by
 split
 ·exact h
 ·split
  ·exact⟨h.get n0 _,h.get n0 _,λc=>by
    cases c with
    |true=>exact h
    |false=>exact zE n0 (h.rev 0 m) _ _⟩
  ·exact zE n0 h _ _
theorem Cy(n0:0<n)(h:Bd n p)(k:Nat):∀ f l r,kIn n (λ_=>True) (kas_place p k f l r)
 |0,_,_=>trivial
 |f+1,l,r=>by
  show kIn n _ (if l>=r then _ else _)
  split
  ·exact trivial
  ·exact⟨h.get n0 _,h.get n0 _,λc=>by
    cases c with
    |true=>exact Cy n0 h k f _ _
    |false=>exact Cy n0 h k f _ _⟩
theorem Uu(n0:0<n):∀ f (p:Array Nat) k,Bd n p->kIn n (Bd n) (kas_bin f p k)
 |0,_,_,h=>h
 |f+1,p,k,h=>(Cy n0 h k _ _ _).then λl _=>Uu n0 f _ _ (h.perm (bubble_perm _ _ _))
theorem WL(n0:0<n):kIn n (Bd n) (kas_sort n):=(Ut n0 (p:=List.toArray (List.range n)) (λx hx=>by simpa using hx) _).then λr hr=>by
 split
 ·exact Uu n0 _ _ _ hr
 ·exact hr
end
open PySem PySem.Spec PySem.W PyProof PyProof.Rows
open PySem PySem.Spec PySem.W PyProof PyProof.Rows
theorem KT.at{H:Hp}{kvs:List (List Key×V)}{xs:List (List Key×Addr×Value)}(r:KT H kvs xs):xs.length=kvs.length/\∀ (i:Nat) k,(kvs.map (·.1))[i]?=some k->∃ b u,xs[i]?=some (k,b,u)/\H b=some (.tup (k.map kV)):=by
 induction r with
 |nil=>exact⟨rfl,λi k h=>by simp at h⟩
 |@cons p q ps qs hq t ih=>
  refine⟨by simp[ih.1],λi k h=>?_⟩
  cases i with
  |zero=>
   have h:p.1=k:=by simpa using h
   subst h;obtain⟨q1,b,u⟩:=q;exact⟨b,u,by rw[hq.1];rfl,hq.2.1⟩
  |succ i=>exact ih.2 i k (by simpa using h)
theorem Cz{α:Type}{f:α->V}{g:α->Value}:∀ {l:List α},(∀ i∈l,RelV (f i) (g i))->Vals (l.map f) (l.map g)
 |[],_=>.nil
 |i::l,h=>.cons (h i Zaw) (Cz λj hj=>h j (Zaq _ hj))
namespace MP
section
theorem Up.tups{F H:Hp}{l:Addr}{o:HO}(s:aU F H)(hl:H l=none):Up F H (ul F H λ_=>False) (upd H l o):=by
 refine⟨iw s,fj hl,λb o q=>?_,(pI s).trans (fj hl)⟩;by_cases hb:False\/∃ ys,H b=some (.tup ys)
 ·rw[gf hb] at q;obtain⟨ys,z⟩:=hb.resolve_left id;rw[z] at q;cases q;exact .inr (.inr ⟨ys,rfl⟩)
 ·rw[fB hb] at q;exact .inl q
end
end MP
end L2
namespace L2.MP
open PySem PySem.Spec PyProof.Rows
section
theorem J5{α:Type}{l:List α}{i:Nat}{x:α}(h:l[i]?=some x):l.set i x=l:=by
 apply ZbE
 intro j;rw[ZbT];split
 ·rename_i e;subst e;rw[Zan (cL h),h]
 ·rfl
theorem Uv{α:Type}(l:List α)(i:Nat)(x y:α):(l.set i x).set i y=l.set i y:=by simp
end
end L2.MP
namespace L2
open PySem PySem.F PySem.Spec PyProof PyProof.Rows
namespace MP
end MP
open PySem PySem.Spec PyProof PyProof.Rows
namespace MP
end MP
open PySem PySem.Spec PySem.W PyProof PyProof.Rows
section
theorem Ge:∀ {bs:List Addr}{its:List Value},Vals (bs.map V.ref) its->its=bs.map Value.ref
 |[],its,r=>by cases r;rfl
 |b::bs,its,r=>by
  cases r with
  |cons r1 r2=>
   cases r1;rw[Ge r2];rfl
end
namespace MP
end MP
end L2
namespace L2.MP
open PySem PySem.Spec PyProof.Rows
end L2.MP
namespace L2
open PySem PySem.Spec PyProof PyProof.Rows
namespace MP
end MP
end L2
namespace L2.MP
open PySem PySem.Spec PyProof.Rows
section
variable{κ:Type}[DecidableEq κ]
def cJ:List (κ×PV)->κ->PV->List (κ×PV)
 |[],k,p=>[(k,p)]
 |(a,q)::l,k,p=>if a=k then(a,p)::l else(a,q)::cJ l k p
theorem tL{k:κ}{q:PV}:∀ {xs:List (κ×V)}{l:List (κ×PV)},xs.map (·.1)=l.map (·.1)->cI l k=some q->∃ (j:Nat) (v:V),l[j]?=some (k,q)/\xs[j]?=some (k,v)/\lz xs k=some v/\∀ p,cJ l k p=l.set j (k,p)
 |[],[],_,e=>by cases e
 |[],_::_,h,_=>by simp at h
 |_::_,[],h,_=>by simp at h
 |(a,v)::xs,(b,r)::l,h,e=>by
  simp only[Zap,ZbG] at h;obtain⟨h1,h2⟩:=h;have h1:a=b:=h1;subst h1;by_cases hk:a=k
  ·subst hk;unfold cI at e;rw[Zan rfl] at e;cases e;exact⟨0,v,rfl,rfl,q9 rfl,λp=>by unfold cJ;rw[Zan rfl];rfl⟩
  ·unfold cI at e;rw[Zam hk] at e;obtain⟨j,w,e1,e2,e3,e4⟩:=tL h2 e;exact⟨j+1,w,by simpa using e1,by simpa using e2,by rw[mY hk];exact e3,λp=>by rw[cJ,Zam hk,e4];rfl⟩
theorem CG{k:κ}:∀ {xs:List (κ×V)}{l:List (κ×PV)},xs.map (·.1)=l.map (·.1)->cI l k=none->lz xs k=none/\∀ p,cJ l k p=l++[(k,p)]
 |[],[],_,_=>⟨rfl,λ_=>rfl⟩
 |[],_::_,h,_=>by simp at h
 |_::_,[],h,_=>by simp at h
 |(a,v)::xs,(b,r)::l,h,e=>by
  simp only[Zap,ZbG] at h;obtain⟨h1,h2⟩:=h;have h1:a=b:=h1;subst h1;by_cases hk:a=k
  ·unfold cI at e;rw[Zan hk] at e;cases e
  ·unfold cI at e;rw[Zam hk] at e;obtain⟨e1,e2⟩:=CG h2 e;exact⟨by rw[mY hk];exact e1,λp=>by rw[cJ,Zam hk,e2];rfl⟩
end
def X3(fe:Fn PV):Fn PV:=λZ=>bnd (fe Z) λp=>if p.mH=true then some (.ok p) else none
theorem Zi{K:Frag}{C:Cg}{te:TE}{fe:Fn PV}(h:MO K C te fe):MD K C te (X3 fe):=by
 intro F H O Z Q r R e P;rcases bW e with⟨z,e1,rfl⟩|⟨p,e1,hk⟩
 ·exact h F H O Z Q _ R e1 P
 ·split at hk
  ·rename_i hp;cases hk;refine h F H O Z Q _ R e1 λa F' H' u n1 n2 w=>P _ F' H' (λb=>b=a) u (w.dp hp) ?_;rintro b rfl;obtain⟨ob,eo⟩:=w.ne;exact⟨n1,n2,ob,eo,λys q=>by subst q;exact w.zq eo⟩
  ·cases hk
section
variable{p:PV}
theorem Uw{κ:Type}{l:List (κ×PV)}{j:Nat}{k:κ}{q p:PV}(h:l[j]?=some (k,q)):(l.set j (k,p)).map (·.1)=l.map (·.1):=by
 rw[List.map_set];exact J5 (by rw[Zad,h];rfl)
end
end L2.MP
namespace L2
open PySem PySem.Spec PyProof PyProof.Rows
section
variable{K:Type}[DecidableEq K]{prog:Program}{w:World}{knd:HeapKind prog w K}{A:Around}{E:Value->Shared->Prop}{s:Shared}{d a:Addr}{k:K}{xs:List (K×Addr×Value)}
theorem J6{dflt:Value}{Q:Value->Shared->Prop}(hu:knd.room A)(hkey:knd.is s.heap k a)(hm:s.heap.DictOfH knd d xs)(hsz:xs.length<=sizeLine)
  (h1:∀ p,atKey xs k=some p->Q p.2 { s with toks:=s.toks+knd.draws k })
  (h2:atKey xs k=none->∀ h',h'.DictOfH knd d (storedH xs k a dflt)->Heap.SameBut d s.heap h'->Q dflt { s with heap:=h',toks:=s.toks+knd.draws k }) :
  wpAny (model prog w) A (dictSetDefault d (.ref a) dflt) Q E s:=by
 obtain⟨o,es,ep,ho,hc,hd,he,his,hn⟩:=hm;unfold dictSetDefault
 try with_reducible refine wpAny_holding ?_
 refine Zaa (knd.pyHash hu hkey ?_);refine Zaa (wpAny_dictFind_heap (s:={ s with toks:=s.toks+knd.draws k }) hu hkey ho hd he his hn ?_ ?_)
 ·intro hno;have hnot:k ∉ xs.map (·.1):=not_mem_keys_of_get hno;refine Zaa (wpAny_rule (Zaa (wpAny_updateDictKeys (hz:=by have e:=size_of_entries he;lia) (s:={ s with toks:=s.toks+knd.draws k }) ho hd (Zaj (h2 (atKey_none_of_get hno) _ ⟨_,_,ep+1,Heap.get?_update_self _ ho (Obj.isFreed_of_dict (Obj.data_mapDictKeys hd _)),
   hc.mapDictKeys _,Obj.data_mapDictKeys hd _,?_,?_,?_⟩ (ZbH ..))))))
  ·rw[storedH_new (atKey_none_of_get hno)];simp[he,entryOfKey]
  ·rw[storedH_new (atKey_none_of_get hno)];intro x hx;rcases ZaK.mp hx with hx|hx
   ·exact knd.keeps (his x hx) ho hd (ZbH ..)
   ·simp only[Zbf] at hx;subst hx;exact knd.keeps hkey ho hd (ZbH ..)
  ·rw[storedH_new (atKey_none_of_get hno)];rw[ZaJ,Zbi];refine⟨hn,by simp,?_⟩
   intro x hx y hy;simp only[Zap,Zcw,Zbf] at hy;subst hy;exact λe=>hnot (e▸hx)
 ·intro j p hj;refine Zaa (wpAny_dictEntries (s:={ s with toks:=s.toks+knd.draws k }) ho hd ?_);rw[entry_at he j,hj];exact Zaa (wpAny_rule (Zaj (h1 p (atKey_of_get hn hj))))
theorem qp(hd:(d==sysModules)=false)(dflt:Value):MeetsIn prog w (Builtin.«dict.setdefault» ⟨[.ref d,.ref a,dflt],[]⟩) (λA R s=>knd.room A.in1/\∃ k xs,knd.is s.heap k a/\s.heap.DictOfH knd d xs/\xs.length<=sizeLine /\
   (∀ p,atKey xs k=some p->R (.ok (.ret p.2)) { s with toks:=s.toks+knd.draws k }) /\
   (atKey xs k=none->∀ h',h'.DictOfH knd d (storedH xs k a dflt)->Heap.SameBut d s.heap h'->R (.ok (.ret dflt)) { s with heap:=h',toks:=s.toks+knd.draws k })):=
 .of_wp λA R s ⟨hu,k,xs,hkey,hm,hsz,h1,h2⟩=>by
  unfold Builtin.«dict.setdefault»;refine Zaa ?_;unfold Builtin.Dict.keyAndDefault;refine Zaa (wpAny_notOrdered_dict hm.typeIs ?_);show wpAny _ _ (pure (d,Value.ref a,some dflt)) _ _ s
  refine Zaj ?_;show wpAny _ _ (if(d==sysModules)=true then _ else(dictSetDefault d (.ref a) dflt>>=_)) _ _ s
  rw[Zam (by rw[hd];exact Zbk)]
  exact Zaa (J6 hu hkey hm hsz (λp hp=>Zaj ⟨p.2,rfl,h1 p hp⟩) λhn h' hm' hs'=>Zaj ⟨dflt,rfl,h2 hn h' hm' hs'⟩)
end
section
variable{X:Cx}{pins:List (Addr×Obj)}{O:St}{H:Hp}{s:Shared}{a b:Addr}{kvs:List (List Key×V)}{k:List Key}{z:V}{r:Value}{A:Around}{E:Value->Shared->Prop}
theorem Rm{Q:Value->Shared->Prop}(hu:A.units+1<cLine)(I:Inv X pins O H s)(e:H a=some (.dT kvs))(eb:H b=some (.tup (k.map kV)))(hl:kvs.length<sizeLine)(rz:RelV z r)
  (h1:∀ v,lz kvs k=some v->∀ w' s',Inv X pins O H s'->RelV v w'->Q w' s')
  (h2:lz kvs k=none->∀ s',Inv X pins O (upd H a (.dT (putK kvs k z))) s'->Q r s'):wpAny (model X.prog X.w) A (call (.builtin "dict.setdefault") [.ref a,.ref b,r]) Q E s:=by
 obtain⟨zz,hd,xs,rel,dd⟩:=S5 I.hok e;have hz:xs.length<=sizeLine:=by rw[<-ZcC rel];exact zz
 have hl2:(putK kvs k z).length<=sizeLine:=by have:=j9 kvs k z;lia
 have rv:=rel.val k;refine call_meetsIn ZcD dd.typeIs PySem.F.entry_dict_setdefault (PySem.F.args_dict_setdefault_3 _ _ _) (qp (knd:=tupleKind (bV X.prog X.w)) hd r)
  ⟨tupleKind_room_in1 hu,k,xs,qe I.hok eb,dd,hz,λp hp=>?_,λhn h' dd' hs=>?_⟩
 ·rw[hp] at rv;cases e2:lz kvs k with
  |none=>rw[e2] at rv;exact rv.elim
  |some v'=>rw[e2] at rv;exact h1 v' e2 p.2 _ (I.tok _) rv
 ·rw[hn] at rv;have hn':lz kvs k=none:=by
   cases e2:lz kvs k with
   |none=>rfl
   |some v'=>rw[e2] at rv;exact rv.elim
  obtain⟨q,es,ep,hq,g2,g3,g4,_,g5⟩:=dd';refine h2 hn' _ (wF I (by rw[e];exact True.intro) hs ⟨q,hq⟩ ⟨hl2,hd,_,(rel.put k eb rz).keeps λc ys ec=>?_,q,es,ep,hq,g2,g3,g4,g5⟩)
  rw[aL (RZ ec e (λz=>nomatch z))];exact ec
end
def J7(td ty tz:TE):TE:=λO H Q=>td O H λx H1=>∃ a,x=.ref a/\IsD H1 a/\ty O H1 λy H2=>tz O H2 λz H3=>∃ kvs k b,H3 a=some (.dT kvs)/\y=.ref b/\H3 b=some (.tup (k.map kV))/\kvs.length<sizeLine /\
 (∀ v,lz kvs k=some v->Q v H3)/\(lz kvs k=none->Q z (upd H3 a (.dT (putK kvs k z))))
section
variable{X:Cx}{o e f:Expr}{apos cpos:Pos}{td ty tz:TE}
theorem Nh(hu:X.A.units+1<cLine)(ho:PE X o td)(he:PE X e ty)(hf:PE X f tz)(m:M2 X o "setdefault" apos e f cpos):PE X (.Call (.Attribute o "setdefault" apos) [e,f] [] cpos) (J7 td ty tz):=by
 intro pins s O H Q I h;refine wpAny_Call_method m.base m.few m.line ZbD ZcD PySem.F.type_dict_setdefault (thn (ho pins s O H _ I h) ?_);rintro u s1 ⟨x,H1,I1,rx,a,ex,d,q1⟩;subst ex;obtain rfl:u=Value.ref a:=rx;obtain⟨t1,t2,_⟩:=Bj I1 d;refine⟨t1,t2,?_⟩;rw[m.trees];refine Zb0 rfl (Zca (ZbK (thn (he pins s1 O H1 _ I1 q1) λiv s2 ⟨y,H2,I2,ry,q2⟩=>
  ZbK (thn (hf pins s2 O H2 _ I2 q2) λfv s3 ⟨z,H3,I3,rz,kvs,k,b,ea,ey,eb,hl,c1,c2⟩=>Zcv ?_))))
 subst ey;obtain rfl:iv=Value.ref b:=ry;exact Rm hu I3 ea eb hl rz (λv hv w' s' I' r'=>⟨v,H3,I',r',c1 v hv⟩) λhn s' I'=>⟨z,_,I',rz,c2 hn⟩
end
namespace MP
section
variable{K:Frag}{C:Cg}{te tb:TE}{F F1 F2 H H1 H2:Hp}{O:St}{Z:Rho}{D:Ends}{S:Addr->Prop}{v:V}{p:PV}
theorem Dp.Hw{l:List (List Key×PV)}(d:Dp K F H S v (.dt l)):∃ (T:Nat->Addr->Prop) (a:Addr) (xs:List (List Key×V)),v=.ref a/\H a=some (.dT xs)/\S a/\(∀ j b,T j b->S b/\b≠a)/\(∀ i j b,T i b->T j b->i=j)/\xs.map (·.1)=l.map (·.1)/\∀ (j:Nat) x p,xs[j]?=some x->l[j]?=some p->Dp K F H (T j) x.2 p.2:=by
 cases d with
 |fr r st=>cases st
 |dt h hp hs dj hl hr=>exact⟨_,_,_,rfl,h,hp,hs,dj,hl,hr⟩
def xn(i:Nat)(fk fe:Fn PV):Sn:=λZ=>match rH i Z with
 |some (.dt l)=>if l.length<sizeLine then gw (fk Z) λkp=>match kp with
  |.tup ks=>match gF ks with
   |some k=>match(cI l k).getD (.lst []) with
    |.lst row=>gw (fe (Z.set i (some (.dp (.dt (cJ l k (.lst row))))))) λq=>if q.still=true/\row.length<sizeLine then some (.nx (Z.set i (some (.dp (.dt (cJ l k (.lst (row++[q]))))))))
     else none
    |_=>none
   |none=>none
  |_=>none else none
 |_=>none
theorem Ph{κ:Type}[DecidableEq κ]{k:κ}{p q:PV}:∀ {l:List (κ×PV)},cJ (cJ l k p) k q=cJ l k q
 |[]=>by simp[cJ]
 |(a,r)::l=>by
  by_cases h:a=k
  ·simp[cJ,h]
  ·simp[cJ,h,Ph (l:=l)]
theorem Ux{κ:Type}[DecidableEq κ]{k:κ}{p:PV}:∀ {l:List (κ×PV)},cI (cJ l k p) k=some p
 |[]=>by simp[cJ,cI]
 |(a,r)::l=>by
  by_cases h:a=k
  ·simp[cJ,cI,h]
  ·simp[cJ,cI,h,Ux (l:=l)]
theorem J8{κ:Type}[DecidableEq κ]{k:κ}{p:PV}:∀ {l:List (κ×PV)},cI l k=some p->cJ l k p=l
 |[],e=>by cases e
 |(a,r)::l,e=>by
  unfold cI at e;by_cases h:a=k
  ·rw[Zan h] at e;cases e;simp[cJ,h]
  ·rw[Zam h] at e;simp[cJ,h,J8 e]
theorem Gf{i:Nat}{l:List (List Key×PV)}{k:List Key}{row:List PV}{q:PV}{P:Nat->Addr->Prop}{a b:Addr}{xs:List (List Key×V)}{w:V}(R:RE K C.toCf F H O Z)(d:RD K C.toCf F H O Z P)(ei:Z[i]?=some (some (.dp (.dt l))))(es:O[i]?=some (some (.ref a)))(ha:H a=some (.dT xs))(hv:lz xs k=some (.ref b))(hp:cI l k=some (.lst row))(rep:Rep K F w q)(st:q.still=true) :
  ∃ ys,H b=some (.lst ys)/\ys.length=row.length/\RE K C.toCf F (upd H b (.lst (ys++[w]))) O (Z.set i (some (.dp (.dt (cJ l k (.lst (row++[q]))))))):=by
 obtain⟨v,e1,dp⟩:=d.dp i _ ei;rw[es] at e1;cases e1;obtain⟨T,a',xs',ea,ha',Pa,hT,dj,hkeys,hch⟩:=dp.Hw;cases ea;rw[ha] at ha';cases ha';obtain⟨j,w',lj,xj,hvw,hput⟩:=tL hkeys hp;rw[hv] at hvw;cases hvw;obtain⟨T2,b',ys,eb,hb,sb,ht2,ds2⟩:=(hch j _ _ xj lj).cH;have eb:V.ref b=.ref b':=eb;cases eb;have nab:a≠b:=λz=>(hT j b sb).2 z.symm;have nt:∀ c zs,H c=some (.tup zs)->upd H b (.lst (ys++[w])) c=some (.tup zs):=λc zs z=>by
  rw[aL (λy=>by subst y;rw[hb] at z;cases z)];exact z
 refine⟨ys,hb,ds2.1,?_⟩;refine R.Cp d ei es (hT j b sb).1 (λzs z=>by cases z) (S':=P i) (.dt (S:=T) (xs:=xs) (by rw[aL nab];exact ha) Pa hT dj (by rw[hput,Uw lj];exact hkeys) λm x r h1 h2=>?_) λc z=>.inl z
 rw[hput] at h2;rcases get_set h2 with⟨f1,f2⟩|⟨f1,f2⟩
 ·subst f1;subst f2;rw[xj] at h1;cases h1;exact Dp.snoc hb sb ht2 ds2 rep st
 ·exact(hch m x r h1 f2).up (aU.refl _) (λc o z y=>by rw[aL (λe=>by subst e;exact f1 (dj j m c sb z))];exact y) nt
theorem Rn{i:Nat}{fk fe:Fn PV}(hk:MJ K C (aF K) tb fk)(he:MJ K C (aF K) te fe) :
  MS K C (Ax (tBM K "list" wu (J7 (mj i) tb (Yz uX)) (jU te uX))) (xn i fk fe):=by
 intro F H O Z D o R e Pq;unfold xn at e;split at e
 case h_2=>cases e
 rename_i l hl;split at e
 case isFalse=>cases e
 rename_i hlen;obtain⟨P0,d0⟩:=R.dd;obtain⟨v0,e0,dp0⟩:=d0.dp i _ (du hl);obtain⟨_,a,xs0,rfl,ha0,_⟩:=dp0.Hw;refine⟨_,e0,a,rfl,.inr ⟨xs0,.inl ha0⟩,?_⟩;rcases dg e with⟨z,e1,rfl⟩|⟨kp,e1,hk1⟩
 ·exact hk F H O Z _ _ R e1 Pq
 refine hk F H O Z _ _ R e1 λy F1 H1 u ry=>?_;split at hk1
 case h_2=>cases hk1
 rename_i ks;split at hk1
 case h_2=>cases hk1
 rename_i k hkk;split at hk1
 case h_2=>cases hk1
 rename_i row hrow;obtain⟨bk,zs,rfl,hbk,rr⟩:=Rep.wJ ry;cases tD hkk rr;refine⟨Za7 _,λn hn=>?_⟩;have u1:Up F1 H1 F1 (upd H1 n (.lst [])):=Up.zW u.fh hn;have RA:=R.up u;obtain⟨P1,dA⟩:=RA.dd;have R1:=RA.up u1;have d1:=dA.up u1;obtain⟨v1,e1',dp1⟩:=d1.dp i _ (du hl);rw[e0] at e1';cases e1';obtain⟨T,a',xs,ea,ha,Pa,hT,dj,hkeys,hch⟩:=dp1.Hw;cases ea;have lx:xs.length=l.length:=by have:=Za3 List.length hkeys;simpa using this
 have hbk2:=u1.fh _ _ hbk;refine⟨xs,k,bk,ha,rfl,hbk2,by rw[lx];exact hlen,λv hv=>?_,λhv=>?_⟩
 ·cases hvl:cI l k with
  |none=>rw[(CG hkeys hvl).1] at hv;cases hv
  |some q0=>
   rw[hvl] at hrow;have hrow:q0=.lst row:=hrow;subst hrow;rw[J8 hvl,J5 (du hl)] at hk1;obtain⟨j,w',lj,xj,hvw,_⟩:=tL hkeys hvl;rw[hv] at hvw;cases hvw;obtain⟨T2,b,ys,eb,hb,sb,_,_⟩:=(hch j _ _ xj lj).cH;have eb:v=.ref b:=eb;subst eb;refine⟨tyL hb,?_⟩;rcases dg hk1 with⟨z,e2,rfl⟩|⟨q,e2,hk2⟩
   ·exact he F1 _ O Z _ _ R1 e2 (PX.up Pq (u.trans u1).ff)
   split at hk2
   case isFalse=>cases hk2
   rename_i hq;cases hk2;refine he F1 _ O Z _ _ R1 e2 λw F2 H2 u2 rep=>?_;obtain⟨ys2,hb2,yl,RR⟩:=Gf (R1.up u2) (d1.up u2) (du hl) e0 (u2.hh _ _ ha) hv hvl rep hq.1;exact⟨b,ys2,w,rfl,rfl,hb2,by rw[yl];exact hq.2,Pq F2 _ O ((u.trans u1).trans u2).ff RR⟩
 ·cases hvl:cI l k with
  |some q0=>
   obtain⟨j,w',_,_,hvw,_⟩:=tL hkeys hvl;rw[hv] at hvw;cases hvw
  |none=>
   rw[hvl] at hrow;have hrow:row=[]:=by
    have:PV.lst []=.lst row:=hrow;cases this;rfl
   subst hrow;have hput:=(CG hkeys hvl).2;rw[SX _ hv];have hn2:upd H1 n (.lst []) n=some (.lst []):=aP;have inP:∀ j x,P1 j x->x≠n:=λj x z y=>by
    subst y;obtain⟨_,⟨o,k2,_⟩,_⟩:=dA.own j x z;rw[hn] at k2;cases k2
   have nna:n≠a:=λz=>inP i a Pa z.symm;have il:=cL (du hl);have R3:RE K C.toCf F1 (upd (upd H1 n (.lst [])) a (.dT (xs++[(k,.ref n)]))) O (Z.set i (some (.dp (.dt (cJ l k (.lst [])))))):=by
    refine R1.Cp d1 (du hl) e0 Pa (λzs z=>by cases z) (S':=λc=>P1 i c\/c=n) ?_ λc z=>?_
    ·rw[hput];refine .dt (S:=λm x=>(m<xs.length/\T m x)\/(m=xs.length/\x=n)) (xs:=xs++[(k,.ref n)]) aP (.inl Pa) (λm x z=>?_) (λm m' x z z'=>?_) (by simp[hkeys]) λm x r h1 h2=>?_
     ·rcases z with⟨_,z⟩|⟨_,z⟩
      ·exact⟨.inl (hT m x z).1,(hT m x z).2⟩
      ·exact⟨.inr z,by rw[z];exact nna⟩
     ·rcases z with⟨q,z⟩|⟨q,z⟩<;>rcases z' with⟨q',z'⟩|⟨q',z'⟩
      ·exact dj m m' x z z'
      ·exact absurd z' (inP i x (hT m x z).1)
      ·exact absurd z (inP i x (hT m' x z').1)
      ·rw[q,q']
     ·by_cases hm:m<xs.length
      ·rw[Zak hm] at h1;rw[Zak (by lia)] at h2
       exact((hch m x r h1 h2).up (aU.refl _) (λc o z y=>by rw[aL (hT m c z).2];exact y) λc zs z=>by rw[aL (λy=>by subst y;rw[ha] at z;cases z)];exact z).mono λc z=>.inl ⟨hm,z⟩
      ·have em:m=xs.length:=by
        have:=cL h1;simp at this;lia
       subst em;rw[Zas (Zal _),Zcy] at h1;rw[lx,Zas (Zal _),Zcy] at h2;cases h1;cases h2;exact .lst (S:=λ_ _=>False) (by rw[aL nna];exact hn2) (.inr ⟨rfl,rfl⟩) (λ_ _ q=>q.elim) (λ_ _ _ q=>q.elim) rfl λj x p e1=>by simp at e1
    ·rcases z with z|z
     ·exact .inl z
     ·subst z;exact .inr ⟨u.fh.free hn,⟨_,hn2,λys q=>by cases q⟩,(d1.own i a Pa).2.2.1,RA.rb.wK hn,λj z=>inP j c z rfl,λj q f=>RA.apart hn j q f⟩
   have hn3:upd (upd H1 n (.lst [])) a (.dT (xs++[(k,.ref n)])) n=some (.lst []):=by rw[aL nna];exact hn2
   refine⟨tyL hn3,?_⟩;rcases dg hk1 with⟨z,e2,rfl⟩|⟨q,e2,hk2⟩
   ·exact he F1 _ O _ _ _ R3 e2 (PX.up Pq u.ff)
   split at hk2
   case isFalse=>cases hk2
   rename_i hq;cases hk2;refine he F1 _ O _ _ _ R3 e2 λw F2 H2 u2 rep=>?_;obtain⟨P3,d3⟩:=R3.dd;have ei:(Z.set i (some (.dp (.dt (cJ l k (.lst []))))))[i]?=some (some (.dp (.dt (cJ l k (.lst []))))):=by rw[ZbT,Zan rfl,Zan il]
   have hvn:lz (xs++[(k,V.ref n)]) k=some (.ref n):=by
    unfold lz at hv ⊢;rw[Option.map_eq_none_iff] at hv;rw[List.find?_append,hv];simp
   obtain⟨ys2,hb2,yl,RR⟩:=Gf (R3.up u2) (d3.up u2) ei e0 (u2.hh _ _ aP) hvn Ux rep hq.1;rw[Uv,Ph] at RR;exact⟨n,ys2,w,rfl,rfl,hb2,by rw[yl];exact hq.2,Pq F2 _ O (u.ff.trans u2.ff) RR⟩
end
end MP
open PySem PySem.Spec PySem.W PyProof PyProof.Rows
noncomputable abbrev Sk:=Str×List Int
def ltI:List Int->List Int->Bool
 |a::l,b::m=>if a=b then ltI l m else decide (a<b)
 |_,_=>false
def lH(p q:Sk):Bool:=if p.1=q.1 then ltI p.2 q.2 else decide (p.1.cps.toList<q.1.cps.toList)
theorem CJ:∀ l,ltI l l=false
 |[]=>rfl
 |a::l=>by unfold ltI;rw[Zan rfl];exact CJ l
theorem Gg:∀ {l m n:List Int},ltI l m=true->ltI m n=true->ltI l n=true
 |a::l,b::m,c::n,h1,h2=>by
  unfold ltI at h1 h2 ⊢;by_cases e1:a=b
  ·rw[Zan e1] at h1;by_cases e2:b=c
   ·rw[Zan e2] at h2;rw[Zan (e1.trans e2)];exact Gg h1 h2
   ·rw[Zam e2] at h2;rw[Zam (λz=>e2 (e1.symm.trans z)),e1];exact h2
  ·rw[Zam e1] at h1;have h1:=of_decide_eq_true h1;by_cases e2:b=c
   ·rw[Zam (λz=>e1 (z.trans e2.symm)),<-e2];exact ZaF h1
   ·rw[Zam e2] at h2;have h2:=of_decide_eq_true h2;rw[Zam (by omega)]
    exact ZaF (by omega)
 |[],_,_,h1,_=>by cases h1
 |_::_,[],_,h1,_=>by cases h1
 |_::_,_::_,[],_,h2=>by cases h2
theorem Gh:∀ {l m:List Int},l.length=m.length->l≠m->ltI l m=true\/ltI m l=true
 |[],[],_,h=>absurd rfl h
 |a::l,b::m,hl,h=>by
  unfold ltI;by_cases e:a=b
  ·subst e;rw[Zan rfl,Zan rfl];exact Gh (by simpa using hl) λz=>h (by rw[z])
  ·rw[Zam e,Zam (Zbj e)];rcases Int.lt_or_gt_of_ne e with q|q
   ·exact .inl (ZaF q)
   ·exact .inr (ZaF q)
theorem Zj{a b:Str}(h:a≠b):a.cps.toList≠b.cps.toList:=λe=>h (by
 cases a;cases b;simp only[Str.mk.injEq];exact Array.toList_inj.mp e)
theorem J9(p:Sk):lH p p=false:=by unfold lH;rw[Zan rfl];exact CJ _
theorem Ni{p q t:Sk}(h1:lH p q=true)(h2:lH q t=true):lH p t=true:=by
 unfold lH at h1 h2 ⊢;by_cases e1:p.1=q.1
 ·rw[Zan e1] at h1;by_cases e2:q.1=t.1
  ·rw[Zan e2] at h2;rw[Zan (e1.trans e2)];exact Gg h1 h2
  ·rw[Zam e2] at h2;rw[Zam (λz=>e2 (e1.symm.trans z)),e1];exact h2
 ·rw[Zam e1] at h1;have h1:=of_decide_eq_true h1;by_cases e2:q.1=t.1
  ·rw[Zam (λz=>e1 (z.trans e2.symm)),<-e2];exact ZaF h1
  ·rw[Zam e2] at h2;have h2:=of_decide_eq_true h2;have h3:=List.lt_trans h1 h2;rw[Zam (λz=>by rw[z] at h3;exact List.lt_irrefl _ h3)]
   exact ZaF h3
theorem CK{p q:Sk}(hl:p.2.length=q.2.length)(h:p≠q):lH p q=true\/lH q p=true:=by
 unfold lH;by_cases e:p.1=q.1
 ·rw[Zan e,Zan e.symm];exact Gh hl λz=>h (Zc7 e z)
 ·rw[Zam e,Zam (Zbj e)];by_cases q1:p.1.cps.toList<q.1.cps.toList
  ·exact .inl (ZaF q1)
  ·refine .inr (ZaF ?_);by_cases q2:q.1.cps.toList<p.1.cps.toList
   ·exact q2
   ·exact absurd (List.le_antisymm (List.not_lt.mp q2) (List.not_lt.mp q1)) (Zj e)
def rkS(ps:List Sk)(i:Nat):Nat:=((List.range ps.length).filter λj=>lH (ps.getD j default) (ps.getD i default)).length
structure vB(ps:List Sk)(m:Nat):Prop where
 nd:ps.Nodup
 ln:∀ p∈ps,p.2.length=m
section
variable{ps:List Sk}{m:Nat}
theorem yK{i:Nat}(h:i<ps.length):ps.getD i default∈ps:=Zah (i:=i) (by rw[Zao,Zae h];rfl)
theorem vB.inj(o:vB ps m){i j:Nat}(hi:i<ps.length)(hj:j<ps.length)(e:ps.getD i default=ps.getD j default):i=j:=by
 have g:∀ i,i<ps.length->ps[i]?=some (ps.getD i default):=λi h=>by rw[Zao,Zae h];rfl
 exact(Zb9 hi o.nd).mp (by rw[g i hi,g j hj,e])
theorem Pj{i j:Nat}(hi:i<ps.length)(h:lH (ps.getD i default) (ps.getD j default)=true):rkS ps i<rkS ps j:=by
 unfold rkS;have sub:((List.range ps.length).filter λk=>lH (ps.getD k default) (ps.getD i default)).Sublist ((List.range ps.length).filter λk=>lH (ps.getD k default) (ps.getD j default)):=by
  have e:((List.range ps.length).filter λk=>lH (ps.getD k default) (ps.getD i default))=((List.range ps.length).filter λk=>lH (ps.getD k default) (ps.getD j default)).filter λk=>lH (ps.getD k default) (ps.getD i default):=by
   rw[List.filter_filter];refine ZcU λk _=>?_;cases q:lH (ps.getD k default) (ps.getD i default) with
   |false=>rfl
   |true=>rw[Ni q h];rfl
  rw[e];exact Za8
 refine Nat.lt_of_le_of_ne sub.length_le λe=>?_;have e:=sub.eq_of_length e;have:i∈(List.range ps.length).filter λk=>lH (ps.getD k default) (ps.getD j default):=Zau.mpr ⟨Zav.mpr hi,h⟩;rw[<-e] at this;have:=(Zau.mp this).2;rw[J9] at this;cases this
theorem vB.lt(o:vB ps m){i j:Nat}(hi:i<ps.length)(hj:j<ps.length):lH (ps.getD i default) (ps.getD j default)=decide (rkS ps i<rkS ps j):=by
 cases q:lH (ps.getD i default) (ps.getD j default) with
 |true=>exact(ZaF (Pj hi q)).symm
 |false=>
  refine(ZaM λz=>?_).symm;by_cases e:ps.getD i default=ps.getD j default
  ·rw[o.inj hi hj e] at z;omega
  ·rcases CK (by rw[o.ln _ (yK hi),o.ln _ (yK hj)]) e with w|w
   ·rw[q] at w;cases w
   ·have:=Pj hj w;omega
theorem vB.aas(o:vB ps m){i j:Nat}(hi:i<ps.length)(hj:j<ps.length)(e:rkS ps i=rkS ps j):i=j:=by
 refine o.inj hi hj (Classical.byContradiction λne=>?_);rcases CK (by rw[o.ln _ (yK hi),o.ln _ (yK hj)]) ne with w|w
 ·have:=Pj hi w;omega
 ·have:=Pj hj w;omega
def iY(ps:List Sk):List Nat:=(List.range ps.length).mergeSort λi j=>decide (rkS ps i<=rkS ps j)
theorem pK(ps:List Sk):(iY ps).Perm (List.range ps.length):=List.mergeSort_perm _ _
theorem xq:∀ i∈iY ps,i<ps.length:=λi hi=>Zav.mp ((pK ps).mem_iff.mp hi)
theorem Uy(ps:List Sk):(iY ps).length=ps.length:=by rw[(pK ps).length_eq,Zay]
theorem vB.ord(o:vB ps m):(iY ps).Pairwise λi j=>rkS ps i<rkS ps j:=by
 have h:=List.pairwise_mergeSort (le:=λi j=>decide (rkS ps i<=rkS ps j)) (λa b c h1 h2=>by simp at h1 h2 ⊢;lia) (λa b=>by simp;lia) (List.range ps.length)
 have nd:(iY ps).Nodup:=(pK ps).nodup_iff.mpr ZbJ;refine(h.and nd).imp_of_mem λ{i j} hi hj q=>?_;have h1:rkS ps i<=rkS ps j:=by simpa using q.1
 exact Nat.lt_of_le_of_ne h1 λe=>q.2 (o.aas (xq i hi) (xq j hj) e)
theorem vB.aat(o:vB ps m){l:List Nat}(p:l.Perm (List.range ps.length))(s:l.Pairwise λi j=>rkS ps i<rkS ps j):l=iY ps:=
 List.Perm.eq_of_pairwise (le:=λi j=>rkS ps i<rkS ps j) (λi j _ _ h1 h2=>by lia) s o.ord (p.trans (pK ps).symm)
end
open PySem PySem.W PyProof.Rows
section
open PySem.W
variable{n:Nat}{r:Nat->Nat}
def Sd(r:Nat->Nat)(p:Array Nat)(m:Nat):Prop:=∀ i j,i<j->j<m->r (p.getD i 0)<r (p.getD j 0)
def Dn(r:Nat->Nat)(p:Array Nat)(m:Nat):Prop:=∀ i j,i<j->j<m->r (p.getD j 0)<r (p.getD i 0)
structure Pk(r:Nat->Nat)(n:Nat)(p:Array Nat):Prop where
 perm:p.toList.Perm (List.range n)
 ne:∀ i j,i<n->j<n->i≠j->r (p.getD i 0)≠r (p.getD j 0)
theorem Pk.size{p:Array Nat}(h:Pk r n p):p.size=n:=by
 have:=h.perm.length_eq;rw[ZaZ,Zay] at this;exact this
theorem Uz{p:Array Nat}(inj:∀ i j,i<n->j<n->r i=r j->i=j)(h:p.toList.Perm (List.range n)):Pk r n p:=by
 refine⟨h,λi j hi hj ne e=>?_⟩;have sz:p.size=n:=by
  have:=h.length_eq
  rwa [ZaZ,Zay] at this
 have gi:∀ i,i<n->p.toList[i]?=some (p.getD i 0):=λi hi=>by
  rw[Zbm,Za0,ZaS (by omega)];rfl
 have lt:∀ i,i<n->p.getD i 0<n:=λi hi=>by
  have:=h.mem_iff.mp (Zah (gi i hi));exact Zav.mp this
 have nd:p.toList.Nodup:=h.nodup_iff.mpr ZbJ;have e2:=inj _ _ (lt i hi) (lt j hj) e;have e3:p.toList[i]?=p.toList[j]?:=by rw[gi i hi,gi j hj,e2]
 exact ne ((Zb9 (by rw[ZaZ];omega) nd).mp e3)
theorem jX{α β:Type}{lt:Nat->Nat->Bool}{f:α->KasT β}:∀ (t:KasT α),eU lt (t.bind f)=eU lt (f (eU lt t))
 |.ret _=>rfl
 |.ask i j k=>jX (k (lt i j))
theorem zF{p:Array Nat}{i j:Nat}(hj:j<=p.size)(k:Nat):(kas_rev p i j).getD k 0=if i<=k/\k<j then p.getD (i+j-1-k) 0 else p.getD k 0:=by
 unfold kas_rev;rw[Za0,getElem?_mirror_all hj];split<;>rw[Za0]
theorem zG{p:Array Nat}{src d:Nat}(hs:src<p.size)(hd:d<=src)(k:Nat):(bubble p src d).getD k 0=if k=src-d then p.getD src 0 else if src-d<k/\k<=src then p.getD (k-1) 0 else p.getD k 0:=by
 simp only[Za0,getElem?_bubble hs d hd];by_cases h:k=src-d
 ·rw[Zan h,Zan h]
 ·rw[Zam h,Zam h];by_cases h':src-d<k/\k<=src
  ·rw[Zan h',Zan h']
  ·rw[Zam h',Zam h']
theorem Ka{p q:Array Nat}(h:p.toList.Perm (List.range n))(e:q.Perm p):q.toList.Perm (List.range n):=(ZcJ.mp e).trans h
variable{lt:Nat->Nat->Bool}(hlt:∀ i j,lt i j=decide (r i<r j))
include hlt
theorem Nj{p:Array Nat}(P:Pk r n p):∀ f m,1<=m->m+f<=n->Sd r p m->∃ m',eU lt (kas_asc p f m)=m'/\m<=m'/\m'<=m+f/\Sd r p m'/\(m'<m+f->r (p.getD m' 0)<r (p.getD (m'-1) 0))
 |0,m,_,_,h=>⟨m,rfl,Zal _,Zal _,h,λz=>by omega⟩
 |f+1,m,h1,h2,h=>by
  show ∃ m',eU lt (if lt (p.getD m 0) (p.getD (m-1) 0)=true then .ret m else kas_asc p f (m+1))=m'/\_
  rw[hlt];by_cases c:r (p.getD m 0)<r (p.getD (m-1) 0)
  ·rw[Zan (ZaF c)];exact⟨m,rfl,Zal _,by omega,h,λ_=>c⟩
  ·rw[Zam (by simpa using c)]
   have ne:=P.ne m (m-1) (by omega) (by omega) (by omega)
   have s':Sd r p (m+1):=λi j hij hj=>by
    by_cases hjm:j=m
    ·subst hjm;by_cases him:i=j-1
     ·subst him;omega
     ·have:=h i (j-1) (by omega) (by omega);omega
    ·exact h i j hij (by omega)
   obtain⟨m',e,a,b,c',d⟩:=Nj P f (m+1) (by omega) (by omega) s'
   exact⟨m',e,by omega,by omega,c',λz=>d (by omega)⟩
theorem Pn{p:Array Nat}(P:Pk r n p):∀ f m,2<=m->m+f<=n->Dn r p m->∃ m',eU lt (kas_desc f p m 0)=(p,m',0)/\m<=m'/\m'<=m+f/\Dn r p m'
 |0,m,_,_,h=>⟨m,rfl,Zal _,Zal _,h⟩
 |f+1,m,h1,h2,h=>by
  show ∃ m',eU lt (if lt (p.getD m 0) (p.getD (m-1) 0)=true then(if 0>0 then kas_desc f (kas_rev p (m-(0+1)) m) (m+1) 0 else kas_desc f p (m+1) 0)
   else .ask (p.getD (m-1) 0) (p.getD m 0) λd=>if d=true then .ret (p,m,0) else kas_desc f p (m+1) (0+1))=_/\_
  rw[hlt];have ne:=P.ne m (m-1) (by omega) (by omega) (by omega)
  by_cases c:r (p.getD m 0)<r (p.getD (m-1) 0)
  ·rw[Zan (ZaF c),Zam (by decide)]
   have s':Dn r p (m+1):=λi j hij hj=>by
    by_cases hjm:j=m
    ·subst hjm;by_cases him:i=j-1
     ·subst him;exact c
     ·have:=h i (j-1) (by omega) (by omega);omega
    ·exact h i j hij (by omega)
   obtain⟨m',e,a,b,c'⟩:=Pn P f (m+1) (by omega) (by omega) s'
   exact⟨m',e,by omega,by omega,c'⟩
  ·rw[Zam (by simpa using c)]
   show ∃ m',eU lt (if lt (p.getD (m-1) 0) (p.getD m 0)=true then _ else _)=_/\_
   rw[hlt,Zan (ZaF (by omega))]
   exact⟨m,rfl,Zal _,by omega,h⟩
theorem pL{p:Array Nat}{k:Nat}(P:Pk r n p)(hk:k<n)(h:Sd r p k):∀ f a b,a<=b->b<=k->b-a<=f->(∀ i,i<a->r (p.getD i 0)<r (p.getD k 0))->(∀ i,b<=i->i<k->r (p.getD k 0)<r (p.getD i 0)) ->
  ∃ l,eU lt (kas_place p k f a b)=l/\l<=k/\(∀ i,i<l->r (p.getD i 0)<r (p.getD k 0))/\∀ i,l<=i->i<k->r (p.getD k 0)<r (p.getD i 0)
 |0,a,b,h1,h2,h3,u,v=>⟨a,rfl,by lia,u,λi hi=>v i (by lia)⟩
 |f+1,a,b,h1,h2,h3,u,v=>by
  show ∃ l,eU lt (if a>=b then .ret a else .ask (p.getD k 0) (p.getD ((a+b)/2) 0) λc=>if c=true then kas_place p k f a ((a+b)/2) else kas_place p k f ((a+b)/2+1) b)=l/\_
  by_cases hab:a>=b
  ·rw[Zan hab];exact⟨a,rfl,by lia,u,λi hi=>v i (by lia)⟩
  ·rw[Zam hab];show ∃ l,eU lt (if lt (p.getD k 0) (p.getD ((a+b)/2) 0)=true then _ else _)=l/\_
   rw[hlt];have mk:(a+b)/2<k:=by lia
   by_cases c:r (p.getD k 0)<r (p.getD ((a+b)/2) 0)
   ·rw[Zan (ZaF c)];refine pL P hk h f a ((a+b)/2) (by lia) (by lia) (by lia) u λi hi hik=>?_
    by_cases e:i=(a+b)/2
    ·rw[e];exact c
    ·have:=h ((a+b)/2) i (by lia) hik;lia
   ·rw[Zam (by simpa using c)]
    have ne:=P.ne k ((a+b)/2) hk (by lia) (by lia)
    refine pL P hk h f ((a+b)/2+1) b (by lia) h2 (by lia) (λi hi=>?_) v
    by_cases e:i=(a+b)/2
    ·rw[e];lia
    ·have:=h i ((a+b)/2) (by lia) mk;lia
theorem UG(inj:∀ i j,i<n->j<n->r i=r j->i=j):∀ f (p:Array Nat) k,Pk r n p->1<=k->k+f=n->Sd r p k->Pk r n (eU lt (kas_bin f p k))/\Sd r (eU lt (kas_bin f p k)) n
 |0,p,k,P,_,e,h=>⟨P,by have e:k=n:=e;rw[<-e];exact h⟩
 |f+1,p,k,P,h1,e,h=>by
  show Pk r n (eU lt ((kas_place p k k 0 k).bind λl=>kas_bin f (bubble p k (k-l)) (k+1)))/\Sd r (eU lt ((kas_place p k k 0 k).bind λl=>kas_bin f (bubble p k (k-l)) (k+1))) n
  rw[jX];obtain⟨l,el,lk',u,v⟩:=pL hlt P (by omega) h k 0 k (Za7 _) (Zal _) (by omega) (λi hi=>by omega) (λi hi hk=>by omega)
  rw[el];have sz:=P.size;refine UG inj f _ _ (Uz inj (Ka P.perm (bubble_perm _ _ _))) (by omega) (by omega) λi j hij hj=>?_
  rw[zG (by omega) (by omega),zG (by omega) (by omega)]
  rw[show k-(k-l)=l by omega]
  by_cases hi:i=l
  ·rw[Zan hi];rw[Zam (show ¬j=l by omega),Zan (by omega)]
   exact v (j-1) (by omega) (by omega)
  ·rw[Zam hi];by_cases hj':j=l
   ·rw[Zan hj',Zam (by omega)]
    exact u i (by omega)
   ·rw[Zam hj'];by_cases hi2:l<i/\i<=k
    ·rw[Zan hi2,Zan (by omega)]
     exact h (i-1) (j-1) (by omega) (by omega)
    ·rw[Zam hi2];by_cases hj2:l<j/\j<=k
     ·rw[Zan hj2];by_cases q:i=j-1
      ·omega
      ·exact h i (j-1) (by omega) (by omega)
     ·rw[Zam hj2];exact h i j hij (by omega)
theorem Kc(inj:∀ i j,i<n->j<n->r i=r j->i=j){p:Array Nat}(P:Pk r n p)(h2:2<=n)(h:r (p.getD 1 0)<r (p.getD 0 0)):∃ m q,eU lt (kas_descPart 1 n p)=(m,q)/\1<=m/\m<=n/\Pk r n q/\Sd r q m:=by
 unfold kas_descPart;rw[jX];obtain⟨m,e,a,b,d⟩:=Pn hlt P (n-2) 2 (Zal _) (by omega) λi j hij hj=>by
  have:i=0:=by omega
  have:j=1:=by omega
  subst i j;exact h
 have e:eU lt (kas_desc (n-(1+1)) p (1+1) 0)=(p,m,0):=e;rw[e];show ∃ m' q,eU lt (if(0:Nat)>0 then _ else kas_tail3 m n p)=(m',q)/\_
 rw[Zam (by decide)]
 unfold kas_tail3;rw[jX];have sz:=P.size;have P':Pk r n (kas_rev p 0 m):=Uz inj (Ka P.perm (mirror_perm _ _ _ _));obtain⟨m',e',a',b',d',_⟩:=Nj hlt P' (n-m) m (by omega) (by omega) λi j hij hj=>by
  rw[zF (by omega),zF (by omega),Zan (by omega),Zan (by omega)]
  exact d _ _ (by omega) (by omega)
 rw[e'];exact⟨m',_,rfl,by omega,by omega,P',d'⟩
theorem UJ(inj:∀ i j,i<n->j<n->r i=r j->i=j){p:Array Nat}(P:Pk r n p)(h2:2<=n):∃ m q,eU lt (kas_count n p)=(m,q)/\1<=m/\m<=n/\Pk r n q/\Sd r q m:=by
 unfold kas_count;rw[jX];obtain⟨m,e,a,b,d,q⟩:=Nj hlt P (n-1) 1 (Zal _) (by omega) λi j hij hj=>by omega
 rw[e];by_cases c:m=n
 ·rw[Zan (by simpa using c)]
  exact⟨m,p,rfl,a,by omega,P,d⟩
 ·rw[Zam (by simpa using c)]
  have q:=q (by omega)
  by_cases m1:m>1
  ·rw[Zan m1];show ∃ m' q',eU lt (if lt (p.getD 0 0) (p.getD (m-1) 0)=true then _ else _)=(m',q')/\_
   rw[hlt,Zan (ZaF (d 0 (m-1) (by omega) (by omega)))]
   exact⟨m,p,rfl,a,by omega,P,d⟩
  ·rw[Zam m1];have:m=1:=by omega
   subst this;exact Kc hlt inj P h2 q
theorem WM(inj:∀ i j,i<n->j<n->r i=r j->i=j)(h2:2<=n):Pk r n (eU lt (kas_sort n))/\Sd r (eU lt (kas_sort n)) n:=by
 unfold kas_sort;rw[jX];obtain⟨m,q,e,a,b,P,d⟩:=UJ hlt inj (p:=List.toArray (List.range n)) (Uz inj (List.Perm.refl _)) h2;rw[e];show Pk r n (eU lt (if m<n then _ else .ret q))/\Sd r (eU lt (if m<n then _ else .ret q)) n
 by_cases c:m<n
 ·rw[Zan c,show max m 1=m by omega]
  exact UG hlt inj _ _ _ P a (by omega) d
 ·rw[Zam c];have:m=n:=by omega
  subst this;exact⟨P,d⟩
end
open PySem PySem.Spec PySem.W PyProof PyProof.Rows
def vC(h:Heap)(v:Value)(p:Sk):Prop:=∃ a o t ys n,v=.ref a/\h.get? a=some o/\o.cls=.type "tuple"/\o.data=.seq (List.toArray (.str p.1 t::ys)) n/\IntsAre ys p.2
section
variable{prog:Program}{w:World}{A:Around}{E:Value->Shared->Prop}{s:Shared}{v u:Value}{p q:Sk}
theorem vC.same{h h':Heap}(x:vC h v p)(k:∀ a o,v=.ref a->h.get? a=some o->h'.get? a=some o):vC h' v p:=by
 obtain⟨a,o,t,ys,n,e,h1,h2⟩:=x;exact⟨a,o,t,ys,n,e,k a o e h1,h2⟩
theorem Kd{Q:Bool->Shared->Prop}:∀ {ys zs:List Value}{ns ms:List Int} (i:Nat),IntsAre ys ns->IntsAre zs ms->ns.length=ms.length->Q (ltI ns ms) s->KatLex prog w A true false Q (ys.zip zs) (i+1) s
 |_,_,_,_,i,.nil,.nil,_,h=>kat_nil h
 |_,_,_,_,i,.cons n t h1,.cons m t' h2,hl,h=>by
  refine kat_cons (wpAny_eqBool_int ?_);by_cases d:n=m
  ·rw[beq_iff_eq.mpr d];refine kat_yes (Kd (i+1) h1 h2 (by simpa using hl) ?_)
   unfold ltI at h;rw[Zan d] at h;exact h
  ·rw[beq_eq_false_iff_ne.mpr d];refine kat_no ?_;rw[show(true&&i+1==0)=false by simp]
   unfold ltI at h;rw[Zam d] at h;exact kat_one _ _ (lt_int h)
 |_,_,_,_,_,.nil,.cons ..,hl,_=>by simp at hl
 |_,_,_,_,_,.cons ..,.nil,hl,_=>by simp at hl
theorem CN:∀ {ys:List Value}{ns:List Int},IntsAre ys ns->ys.length=ns.length
 |_,_,.nil=>rfl
 |_,_,.cons _ _ h=>by simp[CN h]
theorem vC.lt(hp:vC s.heap v p)(hq:vC s.heap u q)(hl:p.2.length=q.2.length){Q:Bool->Shared->Prop}(h:Q (lH p q) s):wpAny (model prog w) A (keyLt' (tuples' true) v u) Q E s:=by
 obtain⟨a,o,t,ys,n,rfl,e1,e2,e3,e4⟩:=hp;obtain⟨b,o',t',zs,n',rfl,f1,f2,f3,f4⟩:=hq;refine kat_lt e1 e3 f1 f3 (kat_cons (wpAny_eqBool_str ?_));rw[show decide ((List.toArray (Value.str p.1 t::ys)).size<(List.toArray (Value.str q.1 t'::zs)).size)=false by
  refine ZaM ?_;simp[CN e4,CN f4,hl]]
 by_cases c:p.1=q.1
 ·rw[ZaF c];refine kat_yes (Kd 0 e4 f4 hl ?_);rw[show lH p q=ltI p.2 q.2 by unfold lH;rw[Zan c]] at h
  exact h
 ·rw[ZaM c];refine kat_no ?_;show wpAny _ _ (oneLt' true _ _) _ _ _
  rw[show lH p q=decide (p.1.cps.toList<q.1.cps.toList) by unfold lH;rw[Zam c]] at h
  exact oneLt_str h
theorem UL{vs:List Value}{ps:List Sk}{m:Nat}(ok:vB ps m)(hl:vs.length=ps.length)(hp:∀ (i:Nat) v p,vs[i]?=some v->ps[i]?=some p->vC s.heap v p)(h2:2<=vs.length)(h64:vs.length<64) :
  wpAny (model prog w) A (sortRuns'.run (SortSt.mk' (tuples' true) (vs.toArray.zip vs.toArray) #[] 7 none)) (λr s'=>s'=s/\failedOf r.2=none/\(arrOf r.2).map (·.2)=List.toArray ((iY ps).map λi=>vs.getD i .none)/\(arrOf r.2).size=vs.length) E s:=by
 have at_:∀ i,i<vs.length->vC s.heap (vs.getD i .none) (ps.getD i default):=λi h=>hp i _ _ (by rw[Zao,Zae h];rfl) (by rw[Zao,Zae (by lia)];rfl)
 obtain⟨pk,sd⟩:=WM (n:=vs.length) (r:=rkS ps) (lt:=λi j=>decide (rkS ps i<rkS ps j)) (λ_ _=>rfl) (λi j hi hj e=>ok.aas (by lia) (by lia) e) h2
 have eo:(eU (λi j=>decide (rkS ps i<rkS ps j)) (kas_sort vs.length)).toList=iY ps:=by
  refine ok.aat (by rw[<-hl];exact pk.perm) ?_
  rw[ZbR];intro i j hi hj hij;have sz:=pk.size;rw[ZaZ] at hi hj;have:=sd i j hij (by lia)
  rw[Za0,Za0,ZaS hi,ZaS hj] at this;exact this
 refine kat_run (κ:=tuples' true) (ks:=vs) (vs:=vs) (Q:=λst' s'=>s'=s/\failedOf st'=none/\(arrOf st').map (·.2)=List.toArray ((iY ps).map λi=>vs.getD i .none)/\(arrOf st').size=vs.length) (G:=λr s'=>r=eU (λi j=>decide (rkS ps i<rkS ps j)) (kas_sort vs.length)/\s'=s) rfl h2 h64 (λr st' s' r1 r2 r3 r4=>⟨r4.2,r3,by rw[kat_snds rfl r2,r4.1,eo],by rw[r2,ZcP,r1]⟩)
  ((WL (n:=vs.length) (by lia)).run (lt:=λi j=>decide (rkS ps i<rkS ps j)) (λi j C hi hj hc=>?_) ⟨rfl,rfl⟩)
 refine vC.lt (at_ i hi) (at_ j hj) (by rw[ok.ln _ (yK (by lia)),ok.ln _ (yK (by lia))]) ?_
 rw[ok.lt (by lia) (by lia)]
 exact hc
theorem CP{h:Heap}:∀ {vs:List Value}{ps:List Sk},ps.length=vs.length->(∀ (i:Nat) v p,vs[i]?=some v->ps[i]?=some p->vC h v p)->∃ fs:List Value,KatTups h vs fs/\fs.length=vs.length/\∀ f∈fs,∃ x t,f=.str x t
 |[],_,_,_=>⟨[],.nil,rfl,λ_ h=>nomatch h⟩
 |v::vs,[],e,_=>by cases e
 |v::vs,p::ps,e,hp=>by
  obtain⟨a,o,t,ys,n,rfl,e1,e2,e3,_⟩:=hp 0 v p rfl rfl;obtain⟨fs,k,l,z⟩:=CP (vs:=vs) (ps:=ps) (by simpa using e) λi v p h1 h2=>hp (i+1) v p h1 h2
  refine⟨_,.cons e1 e2 e3 rfl k,by simp[l],λf hf=>?_⟩
  rcases ZaA.mp hf with y|y
  ·exact⟨_,_,y⟩
  ·exact z f y
theorem Ro{r:Nat->Nat->Prop}{n:Nat}(h:n<2):(List.range n).Pairwise r:=by
 rcases(by omega:n=0\/n=1) with rfl|rfl
 ·exact .nil
 ·exact List.pairwise_singleton _ _
theorem WP{vs:List Value}(h:vs.length<2):((vs.toArray.zip vs.toArray).map (·.2)).toList=(List.range vs.length).map λi=>vs.getD i .none:=by
 cases vs with
 |nil=>simp
 |cons v l=>
  cases l with
  |nil=>simp[Zcs]
  |cons u l=>simp at h;omega
theorem xr{a:Addr}{vs:List Value}{ps:List Sk}{m:Nat}{n:Nat}{P:PySem.Fin->Shared->Prop}(ho:s.heap.get? a=some (seqObj "list" vs.toArray n))(hl:ps.length=vs.length)
  (hp:∀ (i:Nat) v p,vs[i]?=some v->ps[i]?=some p->vC s.heap v p)(ok:vB ps m)(h64:vs.length<64)
  (h:(iY ps).length=vs.length->P (.done (.ret .none)) { s with heap:=sortedHeap s.heap a vs (List.toArray ((iY ps).map λi=>vs.getD i .none)) }):wpAny (model prog w) A (Builtin.«list.sort» ⟨[.ref a],[]⟩) P E s:=by
 rw[list_sort_plain];have hz64:vs.length<sizeLine:=ZaH h64 (by decide)
 have ha:a<s.heap.objs.size:=Zat ho;obtain⟨c1,g1⟩:∃ c,(s.heap.update a (Obj.mapSeq λ_=>(#[]:Array Value))).get? a=some (seqObj "list" #[] c):=⟨_,get?_update_seq ho λ_=>#[]⟩;have old:∀ (b:Addr) (o:Obj),b≠a->s.heap.get? b=some o->(((s.heap.update a (Obj.mapSeq λ_=>(#[]:Array Value))).push (seqObj "tuple" vs.toArray 0)).push (seqObj "list" #[] 0)).get? b=some o:=λb o ne e=>
  Zai _ (Zai _ ((Heap.get?_update_ne _ _ _ _ ne).trans e))
 have g2:(((s.heap.update a (Obj.mapSeq λ_=>(#[]:Array Value))).push (seqObj "tuple" vs.toArray 0)).push (seqObj "list" #[] 0)).get? a=some (seqObj "list" #[] c1):=Zai _ (Zai _ g1);refine Zaa (listItems_at ho rfl (Zaa (listUpdate_at ho rfl ?_ (by rw[List.size_toArray];exact ZaB hz64) (Za7 _))))
 refine Zaa (seqEpoch_at g1 rfl (Zaa (wpAny_newTuple (Zaa (wpAny_newList (wpAny_holding ?_) (Za7 _))) (by show vs.length<=_;exact ZaB hz64))))
 show wpAny (model prog w) A _ P E { s with heap:=((s.heap.update a (Obj.mapSeq λ_=>(#[]:Array Value))).push (seqObj "tuple" vs.toArray 0)).push (seqObj "list" #[] 0) }
 dsimp only;by_cases h2:vs.toArray.size<2
 ·rw[Zan h2,Zan h2];refine Zaa (Zaj ?_);rw[StateT.run_pure];refine Zaa (Zaj ?_);dsimp only;have eo:(arrOf (SortSt.mk' general' (vs.toArray.zip vs.toArray) #[] 7 none)).map (·.2)=List.toArray ((iY ps).map λi=>vs.getD i .none):=by
   show(vs.toArray.zip vs.toArray).map (·.2)=_
   apply Array.toList_inj.mp
   rw[List.size_toArray] at h2;have eo:iY ps=List.range vs.length:=by
    exact(ok.aat (by rw[hl]) (Ro h2)).symm
   rw[eo];exact WP h2
  rw[eo];refine Zaa (seqEpoch_at g2 rfl (Zaa (listUpdate_at g2 rfl ?_ (Za7 _) ?_)))
  ·simp only[bne_self_eq_false,Zbs,Zba];rw[List.size_toArray] at h2;exact Zaj (h (by rw[Uy,hl]))
  ·rw[List.size_toArray] at h2;rw[<-eo];refine ZaI (Zc1 (ZcP ..)) ?_;show(vs.toArray.zip vs.toArray).size<=_
   rw[Array.size_zip,List.size_toArray,Nat.min_self];exact Nat.le_succ_of_le (ZaB hz64)
 ·rw[Zam h2,Zam h2];rw[List.size_toArray] at h2;have notA:∀ b o,(∃ v∈vs,v=.ref b)->s.heap.get? b=some o->b≠a:=by
   rintro b o ⟨v,hv,e⟩ hb z;obtain⟨i,hi⟩:=ZaW hv;have il:i<ps.length:=by rw[hl];exact(Zac.mp hi).1
   obtain⟨b',o',t,ys,n',e',f1,f2,_⟩:=hp i v _ hi (Zae il);rw[e] at e';cases e';rw[z,ho] at f1;cases f1;exact absurd (show Value.type "list"=Value.type "tuple" from f2) (by decide)
  have hp2:∀ (i:Nat) v p,vs[i]?=some v->ps[i]?=some p->vC (((s.heap.update a (Obj.mapSeq λ_=>(#[]:Array Value))).push (seqObj "tuple" vs.toArray 0)).push (seqObj "list" #[] 0)) v p:=λi v p h1 h2=>
   (hp i v p h1 h2).same λb o e1 e2=>old b o (notA b o ⟨v,Zah h1,e1⟩ e2) e2
  obtain⟨fs,k1,k2,k3⟩:=CP hl hp2;refine Zaa (kat_kind (s:={ s with heap:=_ }) (T:=.type "str") k1 (by omega) (λf hf=>?_) (by decide) ?_)
  ·obtain⟨x,t,rfl⟩:=k3 f hf;exact .now
  show wpAny _ _ _ _ _ _
  rw[show tuples' (Value.type "str" != Value.type "tuple")=tuples' true from rfl];have run:=UL (prog:=prog) (w:=w) (A:=A) (E:=E) (s:={ s with heap:=((s.heap.update a (Obj.mapSeq λ_=>(#[]:Array Value))).push (seqObj "tuple" vs.toArray 0)).push (seqObj "list" #[] 0) }) ok hl.symm hp2 (by omega) h64
  refine Zaa (Zbn run ?_ λ_ _ e=>e);rintro⟨⟨⟩,st'⟩ s' ⟨rfl,hf,hm,hz⟩;dsimp only;rw[hm];refine Zaa (seqEpoch_at g2 rfl (Zaa (listUpdate_at g2 rfl ?_ (Za7 _) ?_)))
  ·rw[hf];simp only[bne_self_eq_false,Zbs,Zba];refine Zaj (h ?_);have:=Za3 Array.size hm;rw[ZcP,hz,List.size_toArray,Zab] at this;exact this.symm
  ·rw[<-hm];refine ZaI (Zc1 ((ZcP ..).trans hz)) (Nat.le_succ_of_le (ZaB hz64))
end
open PySem PySem.Spec PySem.W PyProof PyProof.Rows
def skV(p:Sk):HO:=.tup (.str p.1::p.2.map V.int)
def skK(p:Sk):List Key:=.inr p.1::p.2.map .inl
theorem aau(p:Sk):HO.tup ((skK p).map kV)=skV p:=by unfold skK skV;simp[kV,Function.comp_def]
theorem X4{h:Heap}{b:Addr}{ob:Obj}{its:List Value}{n:Nat}{p:Sk}(r:Vals (.str p.1::p.2.map V.int) its)(w1:h.get? b=some ob)(w2:ob.cls=.type "tuple")(w3:ob.data=.seq its.toArray n):vC h (.ref b) p:=by
 cases r with
 |cons r1 r2=>
  obtain⟨t1,rfl⟩:=r1;exact⟨b,ob,t1,_,n,rfl,w1,w2,w3,MP.BL r2⟩
def Pu(K:Frag):List V->Hp->VK->Prop:=λxs H Q=>∃ (p:Addr) (bs:List Addr) (ps:List Sk) (m:Nat),xs=[.ref p]/\SqL K H p (bs.map V.ref)/\bs.length=ps.length/\(∀ (j:Nat) b p,bs[j]?=some b->ps[j]?=some p->H b=some (skV p))/\vB ps m/\ps.length<64 /\
 ∀ l,H l=none->Q (.ref l) (upd H l (.lst ((iY ps).map λj=>.ref (bs.getD j 0))))
def zH:List Key->Option (List Int)
 |[]=>some []
 |.inl n::l=>(zH l).map (n::·)
 |_=>none
theorem Ke:∀ {l:List Key}{ns:List Int},zH l=some ns->l=ns.map .inl
 |[],ns,h=>by cases h;rfl
 |.inl n::l,ns,h=>by
  have h:(zH l).map (n::·)=some ns:=h;obtain⟨q,e1,rfl⟩:=Zbl.mp h;rw[Ke e1];rfl
def kSk:List Key->Option Sk
 |.inr x::l=>(zH l).map λns=>(x,ns)
 |_=>none
theorem Zk:∀ {l:List Key}{p:Sk},kSk l=some p->l=skK p
 |.inr x::l,p,h=>by
  have h:(zH l).map (λns=>(x,ns))=some p:=h;obtain⟨q,e1,rfl⟩:=Zbl.mp h;rw[Ke e1];rfl
def Eo:List (List Key)->Option (List Sk)
 |[]=>some []
 |k::ks=>match kSk k,Eo ks with
  |some p,some ps=>some (p::ps)
  |_,_=>none
theorem Px:∀ {ks:List (List Key)}{ps:List Sk},Eo ks=some ps->ps.length=ks.length/\∀ (i:Nat) p,ps[i]?=some p->ks[i]?=some (skK p)
 |[],ps,h=>by cases h;exact⟨rfl,λi p e=>by simp at e⟩
 |k::ks,ps,h=>by
  unfold Eo at h;split at h
  ·rename_i p qs h1 h2;cases h;obtain⟨g1,g2⟩:=Px h2;refine⟨by simp[g1],λi q e=>?_⟩
   cases i with
   |zero=>cases e;rw[Zk h1];rfl
   |succ i=>exact g2 i q (by simpa using e)
  ·cases h
def Py:List V->Hp->VK->Prop:=λxs H Q=>∃ p kvs ps m,xs=[.ref p]/\Rd H p (.dT kvs)/\Eo (kvs.map (·.1))=some ps/\vB ps m/\ps.length<64/\∀ l (ad:Nat->Addr),H l=none->(∀ j∈iY ps,H (ad j)=some (skV (ps.getD j default)))->Q (.ref l) (upd H l (.lst ((iY ps).map λj=>.ref (ad j))))
section
variable{X:Cx}
theorem uB:mW X (.builtin "sorted") (Pu X.K):=by
 intro pins s O H xs us Q I rv h;obtain⟨p,bs,ps,m,rfl,hq,hl,ht,ok,h64,q⟩:=h;obtain⟨u,rfl,ru⟩:=rv.one;cases ru;obtain⟨its,r,pl,hz⟩:=I.list hq;have ei:=Ge r;subst ei;have hlen:(bs.map Value.ref).length=ps.length:=by rw[Zab,hl]
 have prs:∀ (i:Nat) v p,(bs.map Value.ref)[i]?=some v->ps[i]?=some p->vC s.heap v p:=λi v p h1 h2=>by
  rw[Zad] at h1;cases hb:bs[i]? with
  |none=>rw[hb] at h1;cases h1
  |some b=>
   rw[hb] at h1;cases h1;obtain⟨_,its,r,⟨ob,w1,w2,n,w3⟩,_⟩:=(show dB X.prog X.w H s.heap b (skV p) from I.hok b _ (ht i b p hb h2));exact X4 r w1 w2 w3
 refine Zch kind_sorted plain_sorted entry_sorted (args_sorted1 _) ?_;unfold Builtin.«sorted»;refine Zaa (m:=checkCount "sorted" 1 1 _) (Zaj ?_);refine Zaa (collect_list pl.isList ?_ (by rw[hlen];exact ZaI (ZaB h64) (by decide:64<=sizeLine)))
 refine Zaa (wpAny_newList ?_ (by rw[hlen];exact ZaI (ZaB h64) (by decide:64<=sizeLine)))
 have hsz:((s.heap.push (seqObj "list" #[] 0)).update s.heap.objs.size (Obj.mapSeq (·++(bs.map Value.ref).toArray))).objs.size=s.heap.objs.size+1:=by
  rw[Heap.size_update,size_push']
 have hoL:(((s.heap.push (seqObj "list" #[] 0)).update s.heap.objs.size (Obj.mapSeq (·++(bs.map Value.ref).toArray))).push (seqObj "list" (bs.map Value.ref).toArray 0)).get? (s.heap.objs.size+1)=some (seqObj "list" (bs.map Value.ref).toArray 0):=by
  rw[<-hsz];exact Zar _ rfl
 have keep:∀ b o,s.heap.get? b=some o->(((s.heap.push (seqObj "list" #[] 0)).update s.heap.objs.size (Obj.mapSeq (·++(bs.map Value.ref).toArray))).push (seqObj "list" (bs.map Value.ref).toArray 0)).get? b=some o:=λb o q=>by
  have hlt:b<s.heap.objs.size:=Zat q;rw[Heap.get?_push_ne _ _ _ (by rw[hsz];exact ZaE (ZcR hlt)),Heap.get?_update_ne _ _ _ _ (ZaE hlt),Heap.get?_push_ne _ _ _ (ZaE hlt)]
  exact q
 show wpAny _ _ _ _ _ { s with heap:=((s.heap.push (seqObj "list" #[] 0)).update s.heap.objs.size (Obj.mapSeq (·++(bs.map Value.ref).toArray))).push (seqObj "list" (bs.map Value.ref).toArray 0) }
 rw[hsz];refine Zaa (wpAny_holding (wpAny_call_entry slot_list_sort ⟨_,hoL,rfl⟩ entry_list_sort (xr (ps:=ps) hoL hlen.symm (λi v p h1 h2=>(prs i v p h1 h2).same λb o _ e=>keep b o e) ok (by rw[hlen];exact h64) λhn=>⟨_,rfl,?_⟩) (args_list_sort _)))
 refine Zaj ⟨_,rfl,?_⟩;obtain⟨e',he⟩:=sortedAll_at s.heap (bs.map Value.ref) (List.toArray ((iY ps).map λi=>(bs.map Value.ref).getD i .none));have fresh:H (s.heap.objs.size+1)=none:=I.hok.fresh (ZbO _);refine⟨.ref (s.heap.objs.size+1),upd H (s.heap.objs.size+1) (.lst ((iY ps).map λj=>.ref (bs.getD j 0))),I.laid (t':=s.toks) (λb o=>sortedAll_old (vs:=bs.map Value.ref)) (ZbO _) ⟨?_,(iY ps).map λi=>(bs.map Value.ref).getD i .none,e',Cz λj hj=>?_,he⟩,rfl,q _ fresh⟩
 ·rw[Zab,hn,hlen];exact ZaI (ZaB h64) (by decide:64<=sizeLine)
 ·have hj:j<bs.length:=by rw[hl];exact xq j hj
  rw[Zao (l:=bs.map Value.ref),Zad,Zao (l:=bs),Zae hj];rfl
theorem Ep(hc:X.calm=true):mW X (.builtin "sorted") Py:=by
 intro pins s O H xs us Q I rv h;obtain⟨p,kvs,ps,m,rfl,e,hk,ok,h64,q⟩:=h;obtain⟨u,rfl,ru⟩:=rv.one;cases ru;obtain⟨z,hd,ts,rel,o,es,ep,d1,d2,d3,d4,d5,d6⟩:=wC I.hok e;obtain⟨lx,ax⟩:=rel.at;obtain⟨lp,ap⟩:=Px hk;rw[Zab] at lp;have sz:es.size=ts.length:=by rw[<-ZaZ,d4,Zab]
 have at1:∀ j,j<ps.length->∃ b u,ts[j]?=some (skK (ps.getD j default),b,u)/\H b=some (skV (ps.getD j default))/\es[j]?=some (entryOfKey (tupleKind (bV X.prog X.w)) (skK (ps.getD j default),b,u)):=λj hj=>by
  have e1:ps[j]?=some (ps.getD j default):=by rw[Zao,Zae hj];rfl
  obtain⟨b,u,h1,h2⟩:=ax j _ (ap j _ e1);rw[aau] at h2;refine⟨b,u,h1,h2,?_⟩;rw[<-Zbm,d4,Zad,h1];rfl
 refine Zch kind_sorted plain_sorted entry_sorted (args_sorted1 _) ?_;unfold Builtin.«sorted»;refine Zaa (m:=checkCount "sorted" 1 1 _) (Zaj ?_);refine Zaa (PySem.W.kdu_collect (WK (es:=es) (ep:=ep) hd) (I.ok.hd hc) ⟨o,d1,d2,d3⟩ (by lia) λh' tk acc hold hacc=>?_)
 have hla:acc.toList.length=ps.length:=by rw[ZaZ,hacc.1];lia
 have acc_at:∀ (j:Nat) b,(∃ u,ts[j]?=some (skK (ps.getD j default),b,u))->acc.toList[j]?=some (.ref b):=λj b ⟨u,hu⟩=>by
  have hj:j<acc.toList.length:=by rw[hla];have:=(Zac.mp hu).1;lia
  obtain⟨x,y1,y2⟩:=hacc.2 j _ (by rw[<-Zbm];exact Zae hj)
  rw[<-Zbm,d4,Zad,hu] at y1;cases y1;rw[Zae hj,y2];rfl
 have I1:Inv X pins O H { s with heap:=h',toks:=tk }:=I.kept hold;have prs:∀ (i:Nat) v p,acc.toList[i]?=some v->ps[i]?=some p->vC h' v p:=λi v p h1 h2=>by
  have hi:i<ps.length:=(Zac.mp h2).1;have ep':ps.getD i default=p:=by rw[Zao,h2];rfl
  obtain⟨b,u,y1,y2,_⟩:=at1 i hi;rw[acc_at i b ⟨u,y1⟩] at h1;cases h1;rw[ep'] at y2;obtain⟨_,its,r,⟨ob,w1,w2,n,w3⟩,_⟩:=(show dB X.prog X.w H h' b (skV p) from I1.hok b _ y2);exact X4 r w1 w2 w3
 refine Zaa (wpAny_newList ?_ (by rw[hla];exact ZaI (ZaB h64) (by decide:64<=sizeLine)))
 have hoL:(h'.push (seqObj "list" acc.toList.toArray 0)).get? h'.objs.size=some (seqObj "list" acc.toList.toArray 0):=Zar _ rfl;show wpAny _ _ _ _ _ { s with heap:=h'.push (seqObj "list" acc.toList.toArray 0),toks:=tk }
 refine Zaa (wpAny_holding (wpAny_call_entry slot_list_sort ⟨_,hoL,rfl⟩ entry_list_sort (xr (ps:=ps) hoL hla.symm (λi v p h1 h2=>(prs i v p h1 h2).same λb o _ e=>Zai _ e) ok (by rw[hla];exact h64) λhn=>⟨_,rfl,?_⟩) (args_list_sort _)))
 refine Zaj ⟨_,rfl,?_⟩;obtain⟨e',he⟩:=sortedHeap_at (out:=List.toArray ((iY ps).map λi=>acc.toList.getD i .none)) hoL;have fresh:H h'.objs.size=none:=I1.hok.fresh (Zal _);have ads:∀ j∈iY ps,∃ b u,ts[j]?=some (skK (ps.getD j default),b,u)/\H b=some (skV (ps.getD j default)):=λj hj=>by
  obtain⟨b,u,y1,y2,_⟩:=at1 j (xq j hj);exact⟨b,u,y1,y2⟩
 refine⟨.ref h'.objs.size,upd H h'.objs.size (.lst ((iY ps).map λj=>.ref (ts.getD j ([],0,.none)).2.1)),I1.laid (t':=tk) (λb o=>w5) (Zal _) ⟨?_,(iY ps).map λi=>acc.toList.getD i .none,e',Cz λj hj=>?_,he⟩,rfl,q _ (λj=>(ts.getD j ([],0,.none)).2.1) fresh λj hj=>?_⟩
 ·rw[Zab,hn,hla];exact ZaI (ZaB h64) (by decide:64<=sizeLine)
 ·obtain⟨b,u,y1,y2⟩:=ads j hj;rw[Zao (l:=ts),y1,Zao (l:=acc.toList),acc_at j b ⟨u,y1⟩];rfl
 ·obtain⟨b,u,y1,y2⟩:=ads j hj;rw[Zao (l:=ts),y1];exact y2
end
end L2
namespace L2.MP
open PySem PySem.Spec PySem.W PyProof PyProof.Rows
def skP(p:Sk):PV:=.tup (.str p.1::p.2.map PV.int)
def Zm:PV->Option Sk
 |.tup (.str x::l)=>(iM l).map λns=>(x,ns)
 |_=>none
theorem nq{l:List PV}:∀ {ns:List Int},iM l=some ns->l=ns.map PV.int:=by
 induction l with
 |nil=>intro ns h;cases h;rfl
 |cons a l ih=>
  intro ns h;have inv:∃ n,a=.int n:=by
   clear ih
   cases a<;>first|exact noS h|exact⟨_,rfl⟩
  obtain⟨n,rfl⟩:=inv;have h:(iM l).map (n::·)=some ns:=h;obtain⟨q,e1,rfl⟩:=Zbl.mp h;rw[ih e1];rfl
theorem WQ{p:PV}{q:Sk}(h:Zm p=some q):p=skP q:=by
 have inv:∃ x l,p=.tup (.str x::l):=by
  cases p<;>first|exact noS h|(rename_i l;cases l<;>first|exact noS h|(rename_i a l;cases a<;>first|exact noS h|exact⟨_,_,rfl⟩))
 obtain⟨x,l,rfl⟩:=inv;have h:(iM l).map (λns=>(x,ns))=some q:=h;obtain⟨ns,e1,rfl⟩:=Zbl.mp h;rw[nq e1];rfl
def CQ:List PV->Option (List Sk)
 |[]=>some []
 |p::l=>match Zm p,CQ l with
  |some q,some qs=>some (q::qs)
  |_,_=>none
theorem Kf:∀ {l:List PV}{ps:List Sk},CQ l=some ps->l=ps.map skP
 |[],ps,h=>by cases h;rfl
 |p::l,ps,h=>by
  unfold CQ at h;split at h
  ·rename_i q qs h1 h2;cases h;rw[WQ h1,Kf h2];rfl
  ·cases h
def oE(ps:List Sk):Bool:=match ps with
 |[]=>true
 |p::l=>l.all λq=>q.2.length==p.2.length
theorem CT{ps:List Sk}(h:oE ps=true)(nd:ps.Nodup):∃ m,vB ps m:=by
 cases ps with
 |nil=>exact⟨0,nd,λp hp=>(nomatch hp)⟩
 |cons p l=>
  refine⟨p.2.length,nd,λq hq=>?_⟩;rcases ZaA.mp hq with e|e
  ·rw[e]
  ·exact beq_iff_eq.mp (ZaP.mp h q e)
def tM(l:List PV):Option (Res PV):=match CQ l with
 |some ps=>if ps.Nodup/\oE ps=true/\ps.length<64 then some (.ok (.lst ((iY ps).map λj=>skP (ps.getD j default)))) else none
 |none=>none
def CV:PV->Option (Res PV)
 |.dt l=>match Eo (l.map (·.1)) with
  |some ps=>if ps.Nodup/\oE ps=true/\ps.length<64 then some (.ok (.lst ((iY ps).map λj=>skP (ps.getD j default)))) else none
  |none=>none
 |_=>none
section
variable{K:Frag}{C:Cg}
theorem Gi{F:Hp}:∀ {ns:List Int}{xs:List V},bR K F xs (ns.map PV.int)->xs=ns.map V.int
 |[],xs,r=>r.jD
 |n::ns,xs,r=>by
  obtain⟨v,ys,rfl,r1,r2⟩:=bR.dD (show bR K F xs (PV.int n::ns.map PV.int) from r);cases Rep.bD r1;rw[Gi r2];rfl
theorem Zn{F:Hp}{v:V}{p:Sk}(r:Rep K F v (skP p)):∃ b,v=.ref b/\F b=some (skV p):=by
 obtain⟨b,zs,rfl,hb,rr⟩:=Rep.wJ (show Rep K F v (.tup (.str p.1::p.2.map PV.int)) from r);obtain⟨v1,ys1,rfl,s1,s2⟩:=rr.dD;cases Rep.cG s1;rw[Gi s2] at hb;exact⟨b,rfl,hb⟩
theorem UT{F:Hp}{b:Addr}{p:Sk}(h:F b=some (skV p)):Rep K F (.ref b) (skP p):=by
 refine .tup h (by simp) λj x q e1 e2=>?_
 cases j with
 |zero=>cases e1;cases e2;exact .str
 |succ j=>
  rw[Zcr,Zad] at e1 e2;cases ej:p.2[j]? with
  |none=>rw[ej] at e1;cases e1
  |some n=>rw[ej] at e1 e2;cases e1;cases e2;exact .int
theorem Kg{F:Hp}:∀ {ps:List Sk}{xs:List V},bR K F xs (ps.map skP)->∃ bs:List Addr,xs=bs.map V.ref/\bs.length=ps.length/\∀ (j:Nat) b p,bs[j]?=some b->ps[j]?=some p->F b=some (skV p)
 |[],xs,r=>⟨[],r.jD,rfl,λj b p e=>by simp at e⟩
 |p::ps,xs,r=>by
  obtain⟨v,ys,rfl,r1,r2⟩:=bR.dD (show bR K F xs (skP p::ps.map skP) from r);obtain⟨bs,rfl,h2,h3⟩:=Kg r2;obtain⟨b,rfl,hb⟩:=Zn r1;refine⟨b::bs,rfl,by simp[h2],λj b' p' e2 e3=>?_⟩
  cases j with
  |zero=>cases e2;cases e3;exact hb
  |succ j=>exact h3 j b' p' (by simpa using e2) (by simpa using e3)
theorem Pz:R1O K C (aV K) (Pu K) tM:=by
 intro F H x a res Q s ha e P;unfold tM at e;cases h:CQ a with
 |none=>rw[h] at e;cases e
 |some ps=>
  rw[h] at e;have e:(if ps.Nodup/\oE ps=true/\ps.length<64 then some (Res.ok (PV.lst ((iY ps).map λj=>skP (ps.getD j default)))) else none)=some res:=e;split at e
  ·rename_i hc;cases e;obtain⟨m,ok⟩:=CT hc.2.1 hc.1;obtain⟨b,xs,rfl,h1,r1⟩:=ha;rw[Kf h] at r1;obtain⟨bs,rfl,k1,k2⟩:=Kg r1;refine⟨b,bs,ps,m,rfl,h1,k1,λj b p e1 e2=>s _ _ (k2 j b p e1 e2),ok,hc.2.2,λl hl=>P l F _ (Up.zW s hl) hl (s.free hl) ⟨_,aP,by simp,λj x p e1 e2=>?_⟩⟩
   rw[Zad] at e1 e2;cases ej:(iY ps)[j]? with
   |none=>rw[ej] at e1;cases e1
   |some i=>
    rw[ej] at e1 e2;cases e1;cases e2;have hi:=xq i (Zah ej);have g1:bs[i]?=some (bs.getD i 0):=by rw[Zao,Zae (by omega)];rfl
    have g2:ps[i]?=some (ps.getD i default):=by rw[Zao,Zae hi];rfl
    exact UT (k2 i _ _ g1 g2)
  ·cases e
theorem UV:R1O K C (aD K) Py CV:=by
 intro F H x a res Q s ha e P
 match a,e with
 |.dt l,e=>
  obtain⟨_,ad,rfl,xs,h1,h2,h3⟩:=ha;replace e:(match Eo (l.map (·.1)) with
   |some ps=>if ps.Nodup/\oE ps=true/\ps.length<64 then some (Res.ok (PV.lst ((iY ps).map λj=>skP (ps.getD j default)))) else none
   |none=>none)=some res:=e
  cases h:Eo (l.map (·.1)) with
  |none=>rw[h] at e;cases e
  |some ps=>
   rw[h] at e;have e:(if ps.Nodup/\oE ps=true/\ps.length<64 then some (Res.ok (PV.lst ((iY ps).map λj=>skP (ps.getD j default)))) else none)=some res:=e;split at e
   ·rename_i hc;cases e;obtain⟨m,ok⟩:=CT hc.2.1 hc.1;refine⟨ad,xs,ps,m,rfl,h1,by rw[h2];exact h,ok,hc.2.2,λl' bs hl hb=>P l' _ _ (Up.tups s hl) hl ?_ ⟨_,aP,by simp,λj x p e1 e2=>?_⟩⟩
    ·rw[fB]
     ·exact s.free hl
     ·rintro(z|⟨ys,z⟩)
      ·exact z
      ·rw[hl] at z;cases z
    ·rw[Zad] at e1 e2;cases ej:(iY ps)[j]? with
     |none=>rw[ej] at e1;cases e1
     |some i=>
      rw[ej] at e1 e2;cases e1;cases e2;have:=hb i (Zah ej);exact UT (by rw[gf (.inr ⟨_,this⟩)];exact this)
   ·cases e
end
end L2.MP
namespace L2
open PySem PySem.Spec PyProof PyProof.Rows
def Itk(a:Addr)(raw:Obj)(kvs:List (List Key×V)):It:=
 ⟨λi H=>H a=some (.frz raw (.dT kvs))/\i<kvs.length,λi H x H'=>H'=H/\∃ kv b,kvs[i]?=some kv/\x=.ref b/\H b=some (.tup (kv.1.map kV)),λi H=>H a=some (.frz raw (.dT kvs))/\i=kvs.length⟩
theorem kt_at{H:Hp}{kvs:List (List Key×V)}{xs:List (List Key×Addr×Value)}(rel:Paired (λ(p:List Key×V) (q:List Key×Addr×Value)=>p.1=q.1/\H q.2.1=some (.tup (p.1.map kV))/\RelV p.2 q.2.2) kvs xs) :
  xs.length=kvs.length/\∀ (i:Nat) kv,kvs[i]?=some kv->∃ z,xs[i]?=some z/\kv.1=z.1/\H z.2.1=some (.tup (kv.1.map kV))/\RelV kv.2 z.2.2:=by
 induction rel with
 |nil=>exact⟨rfl,λi kv q=>by simp at q⟩
 |@cons p z ps zs hp _ ih=>
  refine⟨by simp[ih.1],λi kv q=>?_⟩
  cases i with
  |zero=>simp at q;subst q;exact⟨z,rfl,hp⟩
  |succ i=>exact ih.2 i kv (by simpa using q)
theorem pM{P:Program}{w:World}{H:Hp}{h:Heap}{a:Addr}{raw:Obj}{kvs:List (List Key×V)}(ok:HOk P w H h)(e:H a=some (.frz raw (.dT kvs))){es:Array DictEntry}{ep:Nat}(hd:raw.data=.dict es ep) :
  (a==sysModules)=false/\um h a es ep/\es.size=kvs.length/\∀ (i:Nat) kv,kvs[i]?=some kv->∃ (b:Addr) (u:Value) (x:DictEntry),es[i]?=some x/\x.key=.ref b/\x.val=u/\H b=some (.tup (kv.1.map kV))/\RelV kv.2 u:=by
 obtain⟨hr,_,hs,xs,rel,o,es',ep',h1,h2,h3,h4,h5⟩:=(show dB P w H h a (.frz raw (.dT kvs)) from ok a _ e);rw[hr] at h1;cases h1;rw[hd] at h3;cases h3;obtain⟨ln,at_⟩:=kt_at rel;refine⟨hs,⟨raw,hr,h2,hd⟩,by rw[<-ZaZ,h4,Zab,ln],λi kv q=>?_⟩
 obtain⟨z,e1,e2⟩:=at_ i kv q;refine⟨z.2.1,z.2.2,entryOfKey (tupleKind (bV P w)) z,?_,rfl,rfl,e2.2.1,e2.2.2⟩;rw[<-Zbm,h4,Zad,e1];rfl
theorem PB{X:Cx}{H:Hp}{h:Heap}{a:Addr}{raw:Obj}{kvs:List (List Key×V)}(ok:HOk X.prog X.w H h)(e:H a=some (.frz raw (.dT kvs))):∃ es ep,raw.data=.dict es ep:=by
 obtain⟨hr,_,hs,xs,rel,o,es',ep',h1,h2,h3,h4⟩:=(show dB X.prog X.w H h a (.frz raw (.dT kvs)) from ok a _ e);rw[hr] at h1;cases h1;exact⟨_,_,h3⟩
theorem Nk{P:Program}{w:World}{K:Frag}{tg:Expr}(a it:Addr)(raw:Obj)(kvs:List (List Key×V)){es:Array DictEntry}{ep:Nat}(hd:raw.data=.dict es ep) :
  Turn P w K tg (Itk a raw kvs) [it] it (λi h=>h.IsKeyIter it a i kvs.length ep) where
 mem:=by simp
 obj:=λi h st b hb=>by
  have e:b=it:=by simpa using hb
  subst e;obtain⟨o,e,c,d⟩:=st;exact⟨o,e,λv z=>by rw[d] at z;cases z⟩
 keep:=λi h h' st k=>st.at λo q=>k it (by simp) o q
 item:=by
  intro X hP hw hK hc i pins s O H E I hf st hg;subst hP hw hK;obtain⟨e,hi⟩:=hg;obtain⟨f0,f1,f2,f3,f4,f5⟩:=hf it (by simp)
  obtain⟨_,rd,hl,at_⟩:=pM I.hok e hd;have hne:a≠it:=λz=>by subst z;rw[e] at f0;cases f0
  have W:=yJ (prog:=X.prog) (w:=X.w) (A:=X.A) (I.ok.hd hc) it a hne es ep;refine W.item i s _ _ (by lia) ⟨by rw[hl];exact st,rd⟩ λv h' tk hv st' kk=>?_
  obtain⟨x,hx,rfl⟩:=hv;have I1:Inv X pins O H { s with heap:=h',toks:=tk }:=I.turned (λb o hb e=>kk b o (by simpa using hb) e) f0 f1 f3 f4 f5
  obtain⟨o,eo,cc,dd'⟩:=id st'.1;obtain⟨p,hp⟩:∃ p,kvs[i]?=some p:=⟨_,Zae hi⟩;obtain⟨b,u,y,y1,y2,y3,y4,y5⟩:=at_ i p hp;rw[hx] at y1;cases y1;refine⟨_,rfl,Fi (s:={ s with heap:=h',toks:=tk }) eo cc dd' (by decide) ⟨.ref b,H,I1,y2,⟨rfl,p,b,hp,rfl,y4⟩,by rw[<-hl];exact st'.1,λb hb=>(hf b hb).1⟩⟩
 done:=by
  intro X hP hw hK hc i pins s O H E I hf st hg;subst hP hw hK;obtain⟨e,hi⟩:=hg;obtain⟨f0,f1,f2,f3,f4,f5⟩:=hf it (by simp)
  obtain⟨_,rd,hl,at_⟩:=pM I.hok e hd;have hne:a≠it:=λz=>by subst z;rw[e] at f0;cases f0
  have W:=yJ (prog:=X.prog) (w:=X.w) (A:=X.A) (I.ok.hd hc) it a hne es ep;subst hi;refine W.done s _ _ ⟨by rw[hl];exact st,rd⟩ λh' tk kk=>⟨rfl,I.turned (λb o hb e=>kk b o (by simpa using hb) e) f0 f1 f3 f4 f5⟩
 self:=λA i s Q E st h=>wpAny_pyIter_keyiter st h
def UW(tl:TE):TI:=λO H R=>tl O H λx H1=>∃ a raw kvs,x=.ref a/\H1 a=some (.frz raw (.dT kvs))/\R (Itk a raw kvs) H1
theorem CW{X:Cx}{tg l:Expr}{tl:TE}(hl:PE X l tl):PI X tg l (UW tl):=by
 intro pins s O H R I h;refine thn (hl pins s O H _ I h) ?_;rintro v s1 ⟨x,H1,I1,r1,q1⟩;obtain⟨a,raw,kvs,e,ha,q⟩:=q1;subst e;cases r1;obtain⟨es,ep,hd⟩:=PB I1.hok ha;obtain⟨hs,rd,hl,at_⟩:=pM I1.hok ha hd;refine J3 hs rd ?_;refine⟨s1.heap.objs.size,[s1.heap.objs.size],_,_,H1,rfl,I1.kept (t':=s1.toks) λb o e=>Zai _ e,Nk a _ raw kvs hd,⟨_,Zar _ rfl,rfl,by rw[hl];rfl⟩,λb hb=>?_,q⟩
 have e:b=s1.heap.objs.size:=by simpa using hb
 subst e;exact I1.Ej (Zal _) (I1.hok.fresh (Zal _))
namespace MP
def uC(k:List Key):PV:=.tup (k.map JN)
def vD(l:List (List Key×PV)):List PV:=l.map λkv=>uC kv.1
def xu:PV->Option (Res (List PV))
 |.dt l=>some (.ok (vD l))
 |_=>none
section
variable{K:Frag}{C:Cg}
theorem Up.X5{F H:Hp}(s:aU F H):Up F H (ul F H λ_=>False) H:=by
 refine⟨iw s,aU.refl _,λb o q=>?_,pI s⟩;by_cases hb:False\/∃ ys,H b=some (.tup ys)
 ·rw[gf hb] at q;obtain⟨ys,z⟩:=hb.resolve_left id;rw[z] at q;cases q;exact .inr (.inr ⟨ys,rfl⟩)
 ·rw[fB hb] at q;exact .inl q
theorem Kh{F H:Hp}{b:Addr}{k:List Key}(h:H b=some (.tup (k.map kV))):Rep K (ul F H λ_=>False) (.ref b) (uC k):=by
 refine .tup (by rw[gf (.inr ⟨_,h⟩)];exact h) (by simp) λn y r c1 c2=>?_
 rw[Zad] at c1 c2;cases e:k[n]? with
 |none=>rw[e] at c1;cases c1
 |some z=>rw[e] at c1 c2;cases c1;cases c2;exact Hu
theorem yL(i:Nat):Rj K C i (UW (mj i)) (m1 xu (mV i)):=by
 intro F H O Z R' r R hh e P;rcases bW e with⟨z,e1,rfl⟩|⟨p,e1,hk⟩
 ·unfold mV at e1;split at e1
  ·cases e1
  ·cases e1
 obtain⟨a,raw,u,ev,fa,hu⟩:=hh;have hp:Z[i]?=some (some (.sh p)):=by
  unfold mV at e1;split at e1
  ·rename_i q hq;cases e1;exact hq
  ·cases e1
 match p,hk with
 |.dt l,hk=>
  cases hk;obtain⟨v,ev',rv⟩:=R.sh i _ hp;rw[ev] at ev';cases ev';cases rv with
  |@dt _ xs _ h hl hr=>
   have hx:u=.dT xs:=by
    rcases h with h|⟨o,h⟩
    ·rw[fa] at h;cases h
    ·rw[fa] at h;cases h;rfl
   subst hx;have len:xs.length=l.length:=by have:=Za3 List.length hl;simpa using this
   refine⟨_,ev,a,raw,xs,rfl,R.rb.sub _ _ fa,P _ F H (Up.refl R.rb.sub) ⟨λF' H' s s'=>?_,λj F' H' hj s s'=>?_,λj F' H' x H'' hj s s' y=>?_⟩⟩
   ·exact⟨s' _ _ (s _ _ fa),by unfold vD;rw[Zab];exact len.symm⟩
   ·refine⟨s' _ _ (s _ _ fa),?_⟩;unfold vD at hj;rw[Zab] at hj;lia
   ·obtain⟨rfl,kv,b,hkv,rfl,hb⟩:=y;have hl2:(l.map (·.1))[j]?=some kv.1:=by rw[<-hl,Zad,hkv];rfl
    refine⟨ul F' H'' λ_=>False,uC kv.1,Up.X5 s',?_,Kh hb⟩;unfold vD;rw[Zad] at hl2 ⊢;cases q:l[j]? with
    |none=>rw[q] at hl2;cases hl2
    |some w=>
     rw[q] at hl2;show some (uC w.1)=some (uC kv.1)
     rw[show w.1=kv.1 from Zaf hl2]
end
end MP
section
variable{prog:Program}{w:World}{A:Around}{E:Value->Shared->Prop}{s:Shared}{d it:Addr}{es:Array DictEntry}{ep i:Nat}
theorem Rp(hd:(d==sysModules)=false):MeetsIn prog w (Builtin.«dict.items» ⟨[.ref d],[]⟩) (λ_ R s=>s.TypeIs (.ref d) "dict"/\R (.ok (.ret (.ref s.heap.objs.size))) { s with heap:=s.heap.push { cls:=.type "dict_items",data:=.fields #[.ref d] } }):=
 .of_wp λA R s ⟨ty,h⟩=>by
  unfold Builtin.«dict.items»;refine Zaa ?_;unfold Builtin.Dict.noArgs;refine Zaa (wpAny_notOrdered_dict ty (Zaj ?_));show wpAny _ _ (Builtin.Dict.showsAll d>>=_) _ _ s
  unfold Builtin.Dict.showsAll;rw[Zam (by rw[hd];exact Zbk)]
  exact Zaa (Zaj (Zaa (Za5 (Zaj ⟨_,rfl,h⟩))))
theorem Rq{v:Addr}{Q:Value->Shared->Prop}(hv:s.heap.IsItemsView v d)(r:um s.heap d es ep)
  (q:Q (.ref s.heap.objs.size) { s with heap:=s.heap.push { cls:=.type "dict_itemiterator",data:=.fields #[.none,.bool false,.ref d,.int 0 0,.int es.size 0,.int ep 0,.none,.none] } }):wpAny (model prog w) A (pyIter (.ref v)) Q E s:=by
 obtain⟨ov,v1,v2,v3⟩:=id hv;obtain⟨o,e1,e2,e3⟩:=id r;refine wpAny_pyIter_slot hv.typeIs ZcE (wpAny_call_entry ZcE hv.typeIs PySem.F.entry_dict_items_iter ?_ (PySem.F.args_dict_items_iter_1 _));unfold Builtin.«dict_items.__iter__»;refine Zaa (Zaj (Zaa ?_));unfold Builtin.Dict_items.dictOf;refine Zaa (wpAny_field v1 v3 (x:=.ref d) rfl (Zaj (Zaa ?_)));unfold Builtin.Dict_items.newIterator;refine Zaa (wpAny_dictEntries e1 e3 (Zaa (wpAny_dictEpoch e1 e3 ?_)));simp only[show Builtin.Dict_items.ownsTuple "dict_itemiterator"=true by decide,Zbw]
 refine Za5 (Zaj ⟨_,rfl,"dict_itemiterator",_,⟨_,Zar _ rfl,rfl⟩,Za9.lookup,?_⟩)
  (by simp only[sizeOk,Builtin.Dict_items.ownedTupleFields,List.size_toArray,ZaC,ZaQ,Zcq,sizeLine_eq];omega)
 simpa[rawInt,Builtin.Dict_items.ownedTupleFields] using q
theorem Rr{x:DictEntry}{ok ov:Value}{Q:Option Value->Shared->Prop}(hit:IsItemIter s.heap it d i es.size ep ok ov)(r:um s.heap d es ep)(hx:es[i]?=some x)
  (q:∀ h',IsItemIterOut h' it d (i+1) es.size ep x.key x.val s.heap.objs.size->h'.get? s.heap.objs.size=some { cls:=.type "tuple",data:=.seq #[x.key,x.val] } ->
   (∀ b o,b≠it->s.heap.get? b=some o->h'.get? b=some o)->Q (some (.ref s.heap.objs.size)) { s with heap:=h' }):wpAny (model prog w) A (pyNext (.ref it)) Q E s:=by
 obtain⟨hp,g,dr,tk,os⟩:=s;obtain⟨o,e1,e2,e3⟩:=id r;have lt:i<es.size:=by
  rcases Zc3 i es.size with z|z
  ·exact z
  ·rw[Zb2 z] at hx;cases hx
 have ex:es[i]=x:=by rw[ZaS lt] at hx;exact Zaf hx
 have hT:Shared.TypeIs ⟨hp,g,dr,tk,os⟩ (.ref it) "dict_itemiterator":=⟨_,hit,rfl⟩;unfold pyNext;refine Zaa (wpAny_attempt (wpAny_callSpecial?_slot (name:=Str.ofString "__next__") hT Za9 (wpAny_call_entry Za9 hT Zcj ?_ (Zcc _))));refine Zaa (Zaj (Zaa (Zaa ?_)))
 first
  |refine Zaa (wpAny_typeNameOfWhole_itemiter hT (Zaj ?_))
  |refine Zaa (wpAny_typeNameOf_itemiter hT (Zaj ?_))
 refine Zaa (wpAny_fieldsOf hit rfl ?_);simp only[show Builtin.Dict_items.ownsTuple "dict_itemiterator"=true by decide,Zbw]
 show wpAny _ _ (if(Value.ref d==.none)=true then _ else _) _ _ _
 rw[Zam (show ¬(Value.ref d==.none)=true from Zbk)];refine Zaa (Zaj (Zaa (wpAny_dictEntries e1 e3 ?_)));rw[Zam (by simp)]
 refine Zaa (Zaj (Zaa (wpAny_dictEpoch e1 e3 ?_)));rw[Zam (by simp)]
 refine Zaj ?_;simp only[show ¬((i:Int)<0) by omega,Zba,ZaD,ZaS lt]
 refine Zaa ?_
 first
  |refine Zaa (wpAny_typeNameOfWhole_itemiter hT (Zaj ?_))
  |refine Zaa (wpAny_typeNameOf_itemiter hT (Zaj ?_))
 refine Zaa (wpAny_isOneOf_itemiter hT ?_);show wpAny _ _ (setField (.ref it) 3 (rawInt ((i:Int)+1))>>=_) _ _ ⟨hp,g,dr,tk,os⟩
 refine Zaa (wpAny_setField_rec hit (by simp) λh1 f1 s1=>?_)
 replace s1:Heap.SameBut it hp h1:=s1;replace f1:IsItemIter h1 it d (i+1) es.size ep ok ov:=by
  have e:((i+1:Nat):Int)=(i:Int)+1:=by omega
  unfold IsItemIter;rw[e];simpa[rawInt] using f1
 have hT1:Shared.TypeIs ⟨h1,g,dr,tk,os⟩ (.ref it) "dict_itemiterator":=⟨_,f1,rfl⟩;refine Zaa (wpAny_holding (Zaa (wpAny_isOneOf_itemiter hT1 (Zaa (wpAny_isOneOf_itemiter hT1 ?_)))));show wpAny _ _ (Builtin.Dict_items.pairFromOwner (.ref it) 6 es[i].key es[i].val) _ _ ⟨h1,g,dr,tk,os⟩
 rw[ex];unfold Builtin.Dict_items.pairFromOwner;refine Zaa (wpAny_newTuple ?_);have z1:h1.objs.size=hp.objs.size:=s1.1;have il:it<hp.objs.size:=Zat hit;have f2:IsItemIter (h1.push { cls:=.type "tuple",data:=.seq #[x.key,x.val] }) it d (i+1) es.size ep ok ov:=Zai _ f1;generalize hh:h1.push { cls:=.type "tuple",data:=.seq #[x.key,x.val] }=h2 at f2
 have t2:h2.get? hp.objs.size=some { cls:=.type "tuple",data:=.seq #[x.key,x.val] }:=by rw[<-hh,<-z1];exact Zar _ rfl
 have k2:∀ b o,b≠it->hp.get? b=some o->h2.get? b=some o:=λb o hb e=>by rw[<-hh];exact Zai _ (s1.extBut b o hb e)
 show wpAny _ _ (Builtin.Dict_items.ownedTupleIsFree (.ref it)>>=_) _ _ ⟨h2,g,dr,tk,os⟩
 rw[z1];clear hh f1 s1 hT1 z1 h1
 refine Zaa ?_;unfold Builtin.Dict_items.ownedTupleIsFree;refine Zaa (wpAny_field f2 rfl (x:=.none) rfl (Zaj ?_));simp only[Zbw];refine Zaa (wpAny_field f2 rfl (x:=ok) rfl (Zaa (wpAny_field f2 rfl (x:=ov) rfl ?_)));refine Zaa (wpAny_setField_rec f2 (by simp) λh3 f3 s3=>?_)
 replace s3:Heap.SameBut it h2 h3:=s3;replace f3:IsItemIter h3 it d (i+1) es.size ep x.key ov:=f3;refine Zaa (wpAny_setField_rec f3 (by simp) λh4 f4 s4=>?_)
 replace s4:Heap.SameBut it h3 h4:=s4;replace f4:IsItemIter h4 it d (i+1) es.size ep x.key x.val:=f4;refine Zaa (wpAny_setField_rec f4 (by simp) λh5 f5 s5=>?_)
 replace s5:Heap.SameBut it h4 h5:=s5;replace f5:IsItemIterOut h5 it d (i+1) es.size ep x.key x.val hp.objs.size:=f5;refine Zaa (wpAny_setField_rec f5 (by simp) λh6 f6 s6=>?_)
 replace s6:Heap.SameBut it h5 h6:=s6;replace f6:IsItemIterOut h6 it d (i+1) es.size ep x.key x.val hp.objs.size:=f6;have old:∀ b o,b≠it->h2.get? b=some o->h6.get? b=some o:=λb o hb e=>s6.extBut b o hb (s5.extBut b o hb (s4.extBut b o hb (s3.extBut b o hb e)));exact Zaa (wpAny_letGo (Zaj (Zaj ⟨_,rfl,Zaj (q h6 f6 (old _ _ (Zb5 il) t2) λb o hb e=>old b o hb (k2 b o hb e))⟩)))
theorem U0{ok ov:Value}{Q:Option Value->Shared->Prop}(hh:A.handled=none)(hit:IsItemIter s.heap it d es.size es.size ep ok ov)(r:um s.heap d es ep)
  (q:∀ h',Heap.ExtBut it s.heap h'->Q none { s with heap:=h' }):wpAny (model prog w) A (pyNext (.ref it)) Q E s:=by
 obtain⟨o,e1,e2,e3⟩:=id r;have hT:s.TypeIs (.ref it) "dict_itemiterator":=⟨_,hit,rfl⟩;unfold pyNext;refine Zaa (wpAny_attempt (wpAny_callSpecial?_slot (name:=Str.ofString "__next__") hT Za9 (wpAny_call_entry Za9 hT Zcj ?_ (Zcc _))));refine Zaa (Zaj (Zaa (Zaa ?_)))
 first
  |refine Zaa (wpAny_typeNameOfWhole_itemiter hT (Zaj ?_))
  |refine Zaa (wpAny_typeNameOf_itemiter hT (Zaj ?_))
 refine Zaa (wpAny_fieldsOf hit rfl ?_);simp only[show Builtin.Dict_items.ownsTuple "dict_itemiterator"=true by decide,Zbw]
 show wpAny _ _ (if(Value.ref d==.none)=true then _ else _) _ _ _
 rw[Zam (show ¬(Value.ref d==.none)=true from Zbk)];refine Zaa (Zaj (Zaa (wpAny_dictEntries e1 e3 ?_)));rw[Zam (by simp)]
 refine Zaa (Zaj (Zaa (wpAny_dictEpoch e1 e3 ?_)));rw[Zam (by simp)]
 refine Zaj ?_;simp only[show ¬((es.size:Int)<0) by omega,Zba,ZaD,Zb2 (Zal _)]
 refine Zaa ?_
 first
  |refine Zaa (wpAny_typeNameOfWhole_itemiter hT (Zaj ?_))
  |refine Zaa (wpAny_typeNameOf_itemiter hT (Zaj ?_))
 show wpAny _ _ (setField (.ref it) 2 .none>>=_) _ _ s
 refine Zaa (wpAny_setField hit rfl (by simp) ?_)
 show wpAny _ _ (newExc (.type "StopIteration") []>>=_) _ _ _
 refine Zaa ?_;simp only[newExc,newTuple];refine Zaa (Za5 ?_ (by size_fits))
 refine Zaa (m:=firstArgMember _ _) (wpAny_of_eq (a:=Value.none) (by first|rfl|(simp only[firstArgMember];rfl)) (Za5 ?_ (by size_fits)))
 simp only[raiseNew];refine Zaa (wpAny_handled ?_);rw[show A.in1.handled=none from hh];refine Zaa (Zaj (wpAny_throw ?_));refine Zaa (wpAny_isInstance (T:="StopIteration") (b:=true) ⟨_,Zar _ rfl,rfl⟩ isSubtype_stop ?_);exact Zaj (q _ (((ZbH ..).extBut.push _).push _))
end
def aav(a:Addr)(raw:Obj)(kvs:List (List Key×V)):It:=
 ⟨λi H=>H a=some (.frz raw (.dT kvs))/\i<kvs.length,λi H x H'=>∃ p kv b,H p=none/\kvs[i]?=some kv/\H b=some (.tup (kv.1.map kV))/\x=.ref p/\H'=upd H p (.tup [.ref b,kv.2]),λi H=>H a=some (.frz raw (.dT kvs))/\i=kvs.length⟩
theorem Kl{P:Program}{w:World}{K:Frag}{elts:List Expr}{x1:Nat}{pos:Pos}(a it:Addr)(raw:Obj)(kvs:List (List Key×V)){es:Array DictEntry}{ep:Nat}(hd:raw.data=.dict es ep) :
  Turn P w K (.Tuple elts x1 pos) (aav a raw kvs) [it] it (λi h=>∃ ok ov,IsItemIter h it a i kvs.length ep ok ov) where
 mem:=by simp
 obj:=λi h st b hb=>by
  have e:b=it:=by simpa using hb
  subst e;obtain⟨ok,ov,e⟩:=st;exact⟨_,e,λv z=>by cases z⟩
 keep:=λi h h' st k=>by
  obtain⟨ok,ov,e⟩:=st;exact⟨ok,ov,k it (by simp) _ e⟩
 item:=by
  intro X hP hw hK hc i pins s O H E I hf st hg;subst hP hw hK;obtain⟨e,hi⟩:=hg;obtain⟨ok,ov,ei⟩:=st;obtain⟨f0,f1,f2,f3,f4,f5⟩:=hf it (by simp)
  obtain⟨_,rd,hl,at_⟩:=pM I.hok e hd;obtain⟨p,hp⟩:∃ p,kvs[i]?=some p:=⟨_,Zae hi⟩;obtain⟨b,u,y,y1,y2,y3,y4,y5⟩:=at_ i p hp;refine Rr (by rw[hl];exact ei) rd y1 λh3 e3 n3 k3=>?_
  refine⟨_,rfl,wpAny_letOwnedTupleGo_items e3 λh4 e4 s4=>?_⟩;have ilt:it<s.heap.objs.size:=Zat ei;have hT2:IsPair h4 s.heap.objs.size (.ref b) u:=by rw[<-y2,<-y3];exact(s4.2 _ (Zb5 ilt)).trans n3
  refine⟨.ref s.heap.objs.size,upd H s.heap.objs.size (.tup [.ref b,p.2]),I.sZ (ch:=[it]) (λb' o hb q=>?_) hf (Zal _) ⟨by show 2<=sizeLine;decide,[.ref b,u],.cons rfl (.cons y5 .nil),gA.mk hT2⟩,rfl,⟨_,p,b,I.hok.fresh (Zal _),hp,y4,rfl,rfl⟩,⟨y.key,y.val,by rw[<-hl];exact e4⟩,λb' hb=>?_⟩
  ·have q1:b'≠it:=λe=>hb (by simp[e])
   exact(s4.2 b' q1).trans (k3 b' o q1 q)
  ·have e:b'=it:=by simpa using hb
   subst e;rw[aL (ZaE ilt)];exact f0
 done:=by
  intro X hP hw hK hc i pins s O H E I hf st hg;subst hP hw hK;obtain⟨e,hi⟩:=hg;obtain⟨ok,ov,ei⟩:=st;obtain⟨_,rd,hl,at_⟩:=pM I.hok e hd;subst hi;refine U0 (I.ok.hd hc) (by rw[hl];exact ei) rd λh' k=>⟨rfl,?_⟩
  exact I.sY (t':=s.toks) (ch:=[it]) (λb' o hb q=>k b' o (λe=>hb (by simp[e])) q) hf
 self:=λA i s Q E st h=>by
  obtain⟨ok,ov,e⟩:=st;exact PySem.W.kcp_self e h
def PJ(tl:TE):TI:=λO H R=>tl O H λx H1=>∃ a raw kvs,x=.ref a/\H1 a=some (.frz raw (.dT kvs))/\R (aav a raw kvs) H1
theorem Gj{X:Cx}{o:Expr}{apos cpos tpos:Pos}{elts:List Expr}{x1:Nat}{tl:TE}(hl:PE X o tl)(hbase:attributeBase o "items" X.env (eval o X.env)=eval o X.env:=by rfl)(hline:(apos.endLine==cpos.line)=true:=by rfl) :
  PI X (.Tuple elts x1 tpos) (.Call (.Attribute o "items" apos) [] [] cpos) (PJ tl):=by
 intro pins s O H R I h;refine wpAny_Call_method (T:="dict") (id:="dict.items") hbase rfl hline ZbD ZbW PySem.F.type_dict_items (thn (hl pins s O H _ I h) ?_);rintro u s1 ⟨x,H1,I1,rx,q1⟩;obtain⟨a,raw,kvs,e,ha,q⟩:=q1;subst e;obtain rfl:u=Value.ref a:=rx;obtain⟨t1,t2,_⟩:=Bj I1 (.inr ⟨kvs,.inr ⟨raw,ha⟩⟩);refine⟨t1,t2,?_⟩;obtain⟨es,ep,hd⟩:=PB I1.hok ha;obtain⟨hs,rd,hl,at_⟩:=pM I1.hok ha hd;show wpAny _ _ (callWith cpos (.builtin "dict.items") [.ref a] [] []) _ _ s1
 refine method_meetsIn ZbW PySem.F.entry_dict_items rfl (PySem.evalArgs_none ⟨rfl,t1,ZcO _,_,Rp hs,t1,?_⟩);have hsz:(s1.heap.push { cls:=.type "dict_items",data:=.fields #[.ref a] }).objs.size=s1.heap.objs.size+1:=Heap.size_push ..;refine Rq (d:=a) (es:=es) (ep:=ep) ⟨_,Zar _ rfl,rfl,rfl⟩ (rd.step λo e=>Zai _ e) ?_;refine⟨(s1.heap.push { cls:=.type "dict_items",data:=.fields #[.ref a] }).objs.size,[(s1.heap.push { cls:=.type "dict_items",data:=.fields #[.ref a] }).objs.size],_,_,H1,rfl,I1.kept (t':=s1.toks) λb o e=>Zai _ (Zai _ e),Kl a _ raw kvs hd,⟨.none,.none,?_⟩,λb hb=>?_,q⟩
 ·rw[<-hl];exact Zar _ rfl
 ·have e:b=s1.heap.objs.size+1:=by simpa[hsz] using hb
  subst e;exact I1.Ej (ZbO _) (I1.hok.fresh (ZbO _))
namespace MP
def qt(l:List (List Key×PV)):List PV:=l.map λkv=>.tup [uC kv.1,kv.2]
def xx:PV->Option (Res (List PV))
 |.dt l=>some (.ok (qt l))
 |_=>none
section
variable{K:Frag}{C:Cg}
theorem CZ(i:Nat):Rj K C i (PJ (mj i)) (m1 xx (mV i)):=by
 intro F H O Z R' r R hh e P;rcases bW e with⟨z,e1,rfl⟩|⟨p,e1,hk⟩
 ·unfold mV at e1;split at e1
  ·cases e1
  ·cases e1
 obtain⟨a,raw,u,ev,fa,hu⟩:=hh;have hp:Z[i]?=some (some (.sh p)):=by
  unfold mV at e1;split at e1
  ·rename_i q hq;cases e1;exact hq
  ·cases e1
 match p,hk with
 |.dt l,hk=>
  cases hk;obtain⟨v,ev',rv⟩:=R.sh i _ hp;rw[ev] at ev';cases ev';cases rv with
  |@dt _ xs _ h hl hr=>
   have hx:u=.dT xs:=by
    rcases h with h|⟨o,h⟩
    ·rw[fa] at h;cases h
    ·rw[fa] at h;cases h;rfl
   subst hx;have len:xs.length=l.length:=by have:=Za3 List.length hl;simpa using this
   refine⟨_,ev,a,raw,xs,rfl,R.rb.sub _ _ fa,P _ F H (Up.refl R.rb.sub) ⟨λF' H' s s'=>?_,λj F' H' hj s s'=>?_,λj F' H' x H'' hj s s' y=>?_⟩⟩
   ·exact⟨s' _ _ (s _ _ fa),by unfold qt;rw[Zab];exact len.symm⟩
   ·refine⟨s' _ _ (s _ _ fa),?_⟩;unfold qt at hj;rw[Zab] at hj;omega
   ·obtain⟨p,kv,b,hp,hkv,hb,rfl,rfl⟩:=y;have hl2:(l.map (·.1))[j]?=some kv.1:=by rw[<-hl,Zad,hkv];rfl
    rw[Zad] at hl2;cases q:l[j]? with
    |none=>rw[q] at hl2;cases hl2
    |some w=>
     rw[q] at hl2;have ew:w.1=kv.1:=Zaf hl2;have u0:=Up.X5 s';have un:=Up.new (o:=.tup [.ref b,kv.2]) u0.fh hp;refine⟨_,.tup [uC w.1,w.2],u0.trans un,?_,.tup aP rfl λn x p' hx hp'=>?_⟩
     ·unfold qt;rw[Zad,q];rfl
     ·match n with
      |0=>simp at hx hp';subst hx hp';rw[ew];exact(Kh hb).up un.ff
      |1=>simp at hx hp';subst hx hp';exact(hr j _ _ hkv q).up (s.trans (u0.ff.trans un.ff))
      |n+2=>simp at hx
end
end MP
namespace MP
end MP
end L2
namespace L2.MP
section
variable{α:Type}{us:List α}
theorem len0(h:us.length=0):us=[]:=List.length_eq_zero_iff.mp h
theorem WR{n:Nat}(h:us.length=n+1):∃ a vs,us=a::vs/\vs.length=n:=by
 cases us with
 |nil=>cases h
 |cons a vs=>exact⟨a,vs,rfl,Nat.succ.inj h⟩
theorem Dc(h:us.length=1):∃ a,us=[a]:=by
 obtain⟨a,vs,rfl,h2⟩:=WR h;cases len0 h2;exact⟨a,rfl⟩
theorem rN(h:us.length=2):∃ a b,us=[a,b]:=by
 obtain⟨a,vs,rfl,h2⟩:=WR h;obtain⟨b,rfl⟩:=Dc h2;exact⟨a,b,rfl⟩
theorem Er(h:us.length=3):∃ a b c,us=[a,b,c]:=by
 obtain⟨a,vs,rfl,h2⟩:=WR h;obtain⟨b,c,rfl⟩:=rN h2;exact⟨a,b,c,rfl⟩
theorem aaw(h:us.length=4):∃ a b c d,us=[a,b,c,d]:=by
 obtain⟨a,vs,rfl,h2⟩:=WR h;obtain⟨b,c,d,rfl⟩:=Er h2;exact⟨a,b,c,d,rfl⟩
end
end L2.MP
namespace L2
open PySem PySem.Spec PyProof PyProof.Rows
end L2
namespace L2.MP
open PySem PySem.Spec PyProof PyProof.Rows
end L2.MP
namespace L2.SE
open PySem
def Inc(xs:Array Nat):Prop:=xs.toList.Pairwise (·<·)
open PySem PySem.Spec PyProof PyProof.Rows
section
variable{prog:Program}{w:World}{K:Type}[DecidableEq K](knd:KeyKind prog w K)
def Apart(l:List (Int×Value)):Prop:=l.Pairwise λe f=>∀ k,knd.is k e.2=true->knd.is k f.2=true->False
variable{knd}
end
open PySem PySem.Spec PyProof PyProof.Rows
section
variable{K:Type}[DecidableEq K]
def seen(key:Nat->K)(i:Nat):K->Bool:=λk=>(List.range i).any λj=>decide (k=key j)
end
open PySem PySem.Spec PyProof PyProof.Rows
def It(h:Heap)(I:Addr)(f:Value)(i:Nat)(a:Addr)(n ep:Nat):Prop:=∃ o,h.get? I=some o/\o.cls=.type "set_iterator"/\o.data=.fields #[f,.int i 0,.ref a,.int n 0,.int ep 0]
open PySem PySem.Spec PyProof PyProof.Rows
open PySem PySem.Spec PyProof PyProof.Rows
open PySem PySem.Spec PyProof PyProof.Rows
def slots(t:SetTable):Nat->Nat
 |0=>0
 |i+1=>t.place.getD i 0+1
end L2.SE
namespace L2
open PySem PySem.Spec PyProof PyProof.Rows
def dd:List Int->List Int
 |[]=>[]
 |x::l=>if x∈l then dd l else x::dd l
namespace MP
end MP
namespace MP
end MP
end L2
namespace L2.MP
open PySem PySem.Spec PyProof.Rows
open PySem PySem.Spec PyProof PyProof.Rows
open PySem PySem.Spec PyProof PyProof.Rows
open PySem PySem.Spec PyProof PyProof.Rows
end L2.MP
namespace L2
open PySem PySem.Spec PyProof PyProof.Rows
namespace MP
end MP
namespace MP
end MP
end L2
namespace L2.MP
open PySem PySem.Spec PyProof.Rows
section
variable{K:Frag}{C:Cg}{te:TE}{t:TA}{fe:Fn PV}{f:Fn (List PV)}{m:List PV->Option (Res PV)}
def U3(i:Nat)(fe:Fn PV):Sn:=λZ=>match ownAt i Z with
 |some (.lst l)=>gw (fe Z) λp=>match p with
  |.lst r=>if l.length+r.length<=sizeLine then some (.nx (Z.set i (some (.ow (.lst (l++r)))))) else none
  |_=>none
 |_=>none
theorem Zo{i:Nat}(h:MO K C te fe):MS K C (Ax (tBM K "list" Om (mj i) (jU te uX))) (U3 i fe):=by
 intro F H O Z D o R e P;unfold U3 at e;split at e
 case h_2=>cases e
 rename_i l hl;obtain⟨a,g1,⟨xs,g2,g3⟩,g4,g5⟩:=R.ow i _ (bO hl);refine⟨_,g1,tyL g2,?_⟩;rcases dg e with⟨z,e1,rfl⟩|⟨p,e1,hk⟩
 ·exact h F H O Z _ _ R e1 P
 refine h F H O Z _ _ R e1 λb F1 H1 u n1 n2 ow=>?_
 match p,ow,hk with
 |.lst r,ow,hk=>
  obtain⟨zs,hb,rz⟩:=ow;have hk:(if l.length+r.length<=sizeLine then some (Out.nx (Z.set i (some (.ow (.lst (l++r)))))) else none)=some o:=hk;split at hk
  ·rename_i hlen;cases hk;obtain⟨a',k1,⟨ys,k2,k3⟩,k4,k5⟩:=(R.up u).ow i _ (bO hl);rw[g1] at k1;cases k1;refine⟨a,b,ys,zs,rfl,rfl,k2,hb,by rw[k3.1,rz.1];exact hlen,?_⟩
   exact P F1 _ O u.ff ((R.up u).write (bO hl) g1 ⟨_,aP,k3.append rz⟩)
  ·cases hk
def Hy(m:List PV->Option (Res PV))(f:Fn (List PV)):Fn PV:=λZ=>bnd (f Z) λl=>match m l with
 |some (.ok (.lst r))=>if r.all PV.still=true then some (.ok (.lst r)) else none
 |_=>none
theorem U4(h:MAL K C t f):MO K C (wj (spO K C.XR m) [] C.E t) (Hy m f):=by
 intro F H O Z Q r R e P;refine h.run R e P λl xs F1 H1 hk u a=>?_;split at hk
 case h_2=>cases hk
 rename_i q hq;split at hk
 case isFalse=>cases hk
 rename_i hst;cases hk;refine⟨l,H1,.ok (.lst q),aU.refl _,by rw[Za1];exact a,hq,λb F' H' u' n1 n2 ow=>?_⟩
 obtain⟨ys,hb,ry⟩:=ow;have s1:aU F1 H':=u.fh.trans u'.hh;have nb:H b=none:=u.hh.free n1;have nF:ul F1 H' (λ_=>False) b=none:=by
  rw[fB]
  ·exact u.fh.free n1
  ·rintro(z|⟨zs,z⟩)
   ·exact z
   ·rw[hb] at z;cases z
 refine P b (ul F1 H' λ_=>False) H' ⟨u.ff.trans (iw s1),u.hh.trans u'.hh,λc o z=>?_,pI s1⟩ nb nF ⟨ys,hb,ry.1,λj x p e1 e2=>?_⟩
 ·by_cases hc:False\/∃ zs,H' c=some (.tup zs)
  ·rw[gf hc] at z;obtain⟨zs,w⟩:=hc.resolve_left id;rw[w] at z;cases z;exact .inr (.inr ⟨zs,rfl⟩)
  ·rw[fB hc] at z;exact u.fr c o z
 ·refine(ry.2 j x p e1 e2).rA (n:=5) (ZaP.mp hst p (Zah e2)) λc zs z=>?_;have:=u'.fh _ _ z;rw[gf (.inr ⟨zs,this⟩)];exact this
end
end L2.MP
namespace MM
open PySem PySem.Spec PyProof.Rows L2 L2.MP
def Tv{α:Type}(x:Option (Res α))(Q:α->Prop):Prop:=∃ a,x=some (.ok a)/\Q a
def Out.calm:Out->Prop
 |.ex _=>False
 |_=>True
def To(x:Option Out)(Q:Out->Prop):Prop:=∃ o,x=some o/\Out.calm o/\Q o
def Nm(k:Rho->Prop)(Q:Out->Prop):Out->Prop
 |.nx Z=>k Z
 |o=>Q o
section
variable{α β γ:Type}{Q:α->Prop}{QS:Out->Prop}{k:β->Prop}{f:Fn PV}{g h:Fn PV}{Z:Rho}{a:β}{z p:PV}{i:Nat}{s t:Sn}
theorem onNx_nx{k:Rho->Prop}:Nm k QS (.nx Z)=k Z:=rfl
theorem onNx_rt{k:Rho->Prop}:Nm k QS (.rt p)=QS (.rt p):=rfl
theorem onNx_ro{k:Rho->Prop}:Nm k QS (.ro p)=QS (.ro p):=rfl
theorem onNx_rd{k:Rho->Prop}:Nm k QS (.rd p)=QS (.rd p):=rfl
theorem onNx_bk{k:Rho->Prop}:Nm k QS (.bk Z)=QS (.bk Z):=rfl
theorem onNx_ct{k:Rho->Prop}:Nm k QS (.ct Z)=QS (.ct Z):=rfl
theorem tv_some{a:α}:Tv (some (.ok a)) Q=Q a:=by
 refine propext ⟨?_,λq=>⟨a,rfl,q⟩⟩;rintro⟨r',e,q⟩;cases e;exact q
theorem to_nx:To (some (.nx Z)) QS=QS (.nx Z):=propext ⟨λ⟨_,e,_,q⟩=>by cases e;exact q,λq=>⟨_,rfl,trivial,q⟩⟩
theorem to_rt:To (some (.rt p)) QS=QS (.rt p):=propext ⟨λ⟨_,e,_,q⟩=>by cases e;exact q,λq=>⟨_,rfl,trivial,q⟩⟩
theorem to_ro:To (some (.ro p)) QS=QS (.ro p):=propext ⟨λ⟨_,e,_,q⟩=>by cases e;exact q,λq=>⟨_,rfl,trivial,q⟩⟩
theorem to_rd:To (some (.rd p)) QS=QS (.rd p):=propext ⟨λ⟨_,e,_,q⟩=>by cases e;exact q,λq=>⟨_,rfl,trivial,q⟩⟩
theorem to_bk:To (some (.bk Z)) QS=QS (.bk Z):=propext ⟨λ⟨_,e,_,q⟩=>by cases e;exact q,λq=>⟨_,rfl,trivial,q⟩⟩
theorem to_ct:To (some (.ct Z)) QS=QS (.ct Z):=propext ⟨λ⟨_,e,_,q⟩=>by cases e;exact q,λq=>⟨_,rfl,trivial,q⟩⟩
theorem tv_bnd{x:Option (Res β)}{kk:β->Option (Res α)}:Tv (bnd x kk) Q=Tv x (λb=>Tv (kk b) Q):=by
 refine propext ⟨?_,?_⟩
 ·rintro⟨r,e,q⟩;rcases bW e with⟨z,e1,e2⟩|⟨b,e1,e2⟩
  ·cases e2
  ·exact⟨_,e1,r,e2,q⟩
 ·rintro⟨b,e,q⟩;subst e;exact q
theorem to_bnd{x:Option (Res β)}{kk:β->Option Out}:To (gw x kk) QS=Tv x (λb=>To (kk b) QS):=by
 refine propext ⟨?_,?_⟩
 ·rintro⟨r,e,c,q⟩;rcases dg e with⟨z,e1,rfl⟩|⟨b,e1,e2⟩
  ·exact c.elim
  ·exact⟨_,e1,r,e2,c,q⟩
 ·rintro⟨b,e,q⟩;subst e;exact q
theorem to_seq:To (aY s t Z) QS=To (s Z) (Nm (λZ'=>To (t Z') QS) QS):=by
 refine propext ⟨?_,?_⟩
 ·rintro⟨r,e,c,q⟩;unfold aY at e;split at e
  ·rename_i Z' h;exact⟨_,h,trivial,r,e,c,q⟩
  ·rename_i x hx;refine⟨r,e,c,?_⟩;cases r with
   |nx Z'=>exact absurd e (hx Z')
   |_=>exact q
 ·rintro⟨o,e,c,q⟩;unfold aY To;rw[e];cases o with
  |nx Z'=>exact q
  |_=>exact⟨_,rfl,c,q⟩
theorem tO:Tv (none:Option (Res α)) Q=False:=propext ⟨λ⟨_,e,_⟩=>(nomatch e),λh=>h.elim⟩
theorem Hz:To none QS=False:=propext ⟨λ⟨_,e,_⟩=>(nomatch e),λh=>h.elim⟩
theorem tv_m2{op:β->γ->Option (Res α)}{f:Fn β}{g:Fn γ}:Tv (m2 op f g Z) Q=Tv (f Z) (λa=>Tv (g Z) (λb=>Tv (op a b) Q)):=by
 unfold m2;simp only[tv_bnd]
theorem tv_m1{op:β->Option (Res α)}{f:Fn β}:Tv (m1 op f Z) Q=Tv (f Z) (λa=>Tv (op a) Q):=by unfold m1;rw[tv_bnd]
theorem tv_var{Q:PV->Prop}:Tv (mV i Z) Q=∃ p,Z[i]?=some (some (.sh p))/\Q p:=by
 refine propext ⟨?_,λ⟨p,e,q⟩=>⟨_,by unfold mV;rw[e],q⟩⟩
 rintro⟨r,e,q⟩;unfold mV at e;split at e
 ·rename_i p hp;cases e;exact⟨_,hp,q⟩
 ·cases e
theorem tv_lend{Q:PV->Prop}:Tv (mVL i Z) Q=∃ s,Z[i]?=some (some s)/\(match s with|.sh p=>Q p|.ow p=>Q p|.dp _=>False):=by
 refine propext ⟨?_,?_⟩
 ·rintro⟨r,e,q⟩;unfold mVL at e;split at e
  ·rename_i p hp;cases e;exact⟨_,hp,q⟩
  ·rename_i p hp;cases e;exact⟨_,hp,q⟩
  ·cases e
 ·rintro⟨s,e,q⟩;cases s with
  |sh p=>exact⟨_,by unfold mVL;rw[e],q⟩
  |ow p=>exact⟨_,by unfold mVL;rw[e],q⟩
  |dp p=>exact q.elim
theorem tv_c{Q:PV->Prop}:Tv (mC p Z) Q=Q p:=tv_some
theorem tv_view{Q:List PV->Prop}:Tv (pG f Z) Q=Tv (f Z) (λa=>Tv (zr a) Q):=tv_bnd
theorem tv_viewN{Q:List PV->Prop}:Tv (lG i Z) Q=Tv (mVL i Z) (λa=>Tv (zr a) Q):=tv_bnd
theorem tv_asLst{l:List PV}{Q:List PV->Prop}:Tv (zr (.lst l)) Q=Q l:=tv_some
theorem tv_nil{Q:List PV->Prop}:Tv (bc Z) Q=Q []:=tv_some
theorem tv_cons{g:Fn (List PV)}{Q:List PV->Prop}:Tv (az f g Z) Q=Tv (f Z) (λa=>Tv (g Z) (λl=>Q (a::l))):=by
 unfold az;simp only[tv_bnd,tv_some]
theorem cu{c:Prop}[Decidable c]{a:α}:Tv (if c then some (.ok a) else none) Q=(c/\Q a):=by
 by_cases h:c
 ·rw[Zan h,tv_some];simp[h]
 ·rw[Zam h,tO];simp[h]
theorem tv_tup{f:Fn (List PV)}{Q:PV->Prop}:Tv (nY f Z) Q=Tv (f Z) (λl=>l.length<=sizeLine/\Q (.tup l)):=by
 unfold nY;simp only[tv_bnd,cu]
theorem tv_lst{f:Fn (List PV)}{Q:PV->Prop}:Tv (u6 f Z) Q=Tv (f Z) (λl=>l.length<=sizeLine/\Q (.lst l)):=by
 unfold u6;simp only[tv_bnd,cu]
theorem tv_call{m:List PV->Option (Res PV)}{f:Fn (List PV)}{Q:PV->Prop}:Tv (bC m f Z) Q=Tv (f Z) (λl=>Tv (m l) Q):=tv_bnd
theorem tv_callL{m:List PV->Option (Res PV)}{f:Fn (List PV)}{Q:PV->Prop}:Tv (Hg m f Z) Q=Tv (f Z) (λl=>Tv (m l) (λp=>p.flat=true/\Q p)):=by
 unfold Hg;rw[tv_bnd];congr 1
 funext l
 refine propext ⟨?_,λ⟨p,e,hf,q⟩=>⟨p,by simp only[e,hf,Zbw],q⟩⟩
 rintro⟨r,e,q⟩;split at e
 ·rename_i p hp;split at e
  ·rename_i hf;cases e;exact⟨_,hp,hf,q⟩
  ·cases e
 ·cases e
theorem tv_ite{c:Prop}[Decidable c]{x y:Option (Res α)}:Tv (if c then x else y) Q=if c then Tv x Q else Tv y Q:=by split<;>rfl
theorem to_ite{c:Prop}[Decidable c]{x y:Option Out}:To (if c then x else y) QS=if c then To x QS else To y QS:=by split<;>rfl
theorem tv_mIf{c:Fn Bool}{f g:Fn α}:Tv (mIf c f g Z) Q=Tv (c Z) (λb=>if b=true then Tv (f Z) Q else Tv (g Z) Q):=by
 unfold mIf;simp only[tv_bnd,tv_ite]
theorem tv_mAnd{c d:Fn Bool}{Q:Bool->Prop}:Tv (Q5 c d Z) Q=Tv (c Z) (λb=>if b=true then Tv (d Z) Q else Q false):=by
 unfold Q5;simp only[tv_bnd,tv_ite,tv_some]
theorem tv_mOr{c d:Fn Bool}{Q:Bool->Prop}:Tv (mOr c d Z) Q=Tv (c Z) (λb=>if b=true then Q true else Tv (d Z) Q):=by
 unfold mOr;simp only[tv_bnd,tv_ite,tv_some]
theorem tv_mNot{c:Fn Bool}{Q:Bool->Prop}:Tv (Bp c Z) Q=Tv (c Z) (λb=>Q (!b)):=by
 unfold Bp;simp only[tv_bnd,tv_some]
theorem tv_and{Q:PV->Prop}:Tv (uv f g Z) Q=Tv (f Z) (λa=>∃ b,a=.bl b/\if b=true then Tv (g Z) Q else Q (.bl false)):=by
 unfold uv;rw[tv_bnd];congr 1;funext a
 refine propext ⟨?_,?_⟩
 ·rintro⟨r,e,q⟩;split at e
  ·exact⟨true,rfl,by rw[Zan rfl];exact⟨r,e,q⟩⟩
  ·cases e;exact⟨false,rfl,by rw[Zam (by decide)];exact q⟩
  ·cases e
 ·rintro⟨b,e,q⟩;subst e;cases b with
  |true=>rw[Zan rfl] at q;exact q
  |false=>rw[Zam (by decide)] at q;exact⟨_,rfl,q⟩
theorem tv_or{Q:PV->Prop}:Tv (Wi f g Z) Q=Tv (f Z) (λa=>∃ b,a=.bl b/\if b=true then Q (.bl true) else Tv (g Z) Q):=by
 unfold Wi;rw[tv_bnd];congr 1;funext a
 refine propext ⟨?_,?_⟩
 ·rintro⟨r,e,q⟩;split at e
  ·cases e;exact⟨true,rfl,by rw[Zan rfl];exact q⟩
  ·exact⟨false,rfl,by rw[Zam (by decide)];exact⟨r,e,q⟩⟩
  ·cases e
 ·rintro⟨b,e,q⟩;subst e;cases b with
  |true=>rw[Zan rfl] at q;exact⟨_,rfl,q⟩
  |false=>rw[Zam (by decide)] at q;exact q
theorem tv_chain{o1 o2:PV->PV->Option (Res PV)}{Q:PV->Prop}:Tv (Hf o1 o2 f g h Z) Q=Tv (f Z) (λa=>Tv (g Z) (λb=>Tv (o1 a b) (λz=>∃ t,z=.bl t/\if t=true then Tv (h Z) (λc=>Tv (o2 b c) Q) else Q (.bl false)))):=by
 unfold Hf;simp only[tv_bnd];congr 1;funext a
 congr 1;funext b
 congr 1;funext c
 refine propext ⟨?_,?_⟩
 ·rintro⟨r,e,q⟩;split at e
  ·refine⟨true,rfl,?_⟩;rw[Zan rfl,<-tv_bnd];exact⟨r,e,q⟩
  ·cases e;exact⟨false,rfl,by rw[Zam (by decide)];exact q⟩
  ·cases e
 ·rintro⟨t,e,q⟩;subst e;cases t with
  |true=>rw[Zan rfl,<-tv_bnd] at q;exact q
  |false=>rw[Zam (by decide)] at q;exact⟨_,rfl,q⟩
theorem tv_comp{it:Fn (List PV)}{fr:List (Option Nat)}{tg:PV->Rho->Option Rho}{tst:Fn Bool}{el:Fn PV}{Q:PV->Prop}:Tv (fZ it fr tg tst el Z) Q=Tv (it Z) (λl=>l.length<=sizeLine/\Tv (fD tg tst el (frR fr Z) l) (λr=>Q (.lst r))):=by
 unfold fZ;rw[tv_bnd];congr 1;funext l
 by_cases hl:l.length<=sizeLine
 ·rw[Zan hl,tv_bnd];simp only[tv_some,hl,true_and]
 ·rw[Zam hl,tO];simp[hl]
theorem to_next:To (d8 Z) QS=QS (.nx Z):=to_nx
theorem to_cont:To (Ou Z) QS=QS (.ct Z):=to_ct
theorem to_ret:To (fu f Z) QS=Tv (f Z) (λp=>QS (.rt p)):=by unfold fu;simp only[to_bnd,to_rt]
theorem to_retO:To (uw f Z) QS=Tv (f Z) (λp=>QS (.ro p)):=by unfold uw;simp only[to_bnd,to_ro]
theorem to_setO:To (gD i f Z) QS=Tv (f Z) (λp=>QS (.nx (Z.set i (some (.ow p))))):=by unfold gD;simp only[to_bnd,to_nx]
theorem to_asg{tg:PV->Rho->Option Rho}:To (cN f tg Z) QS=Tv (f Z) (λp=>∃ Z',tg p Z=some Z'/\QS (.nx Z')):=by
 unfold cN;rw[to_bnd];congr 1;funext a
 cases e:tg a Z with
 |none=>rw[Hz];exact propext ⟨λh=>h.elim,λ⟨_,z,_⟩=>nomatch z⟩
 |some Z'=>rw[to_nx];exact propext ⟨λq=>⟨Z',rfl,q⟩,λ⟨_,z,q⟩=>by cases z;exact q⟩
theorem to_asgN:To (cN f (gN i) Z) QS=Tv (f Z) (λp=>QS (.nx (Z.set i (some (.sh p))))):=by
 rw[to_asg];congr 1;funext a
 exact propext ⟨λ⟨Z',e,q⟩=>by cases e;exact q,λq=>⟨_,rfl,q⟩⟩
theorem to_if{c:Fn Bool}:To (iG c s t Z) QS=Tv (c Z) (λb=>if b=true then To (s Z) QS else To (t Z) QS):=by
 unfold iG;simp only[to_bnd,to_ite]
theorem to_for{it:Fn (List PV)}{tg:PV->Rho->Option Rho}:To (ph it tg s Z) QS=Tv (it Z) (λl=>To (loop tg s l Z) QS):=to_bnd
theorem to_retOw:To (lE i Z) QS=∃ p,Z[i]?=some (some (.ow p))/\QS (.ro p):=by
 refine propext ⟨?_,λ⟨p,e,q⟩=>⟨.ro p,by unfold lE ownAt;rw[e],trivial,q⟩⟩
 rintro⟨r,e,c,q⟩;unfold lE at e;split at e
 ·rename_i p hp;cases e;exact⟨p,bO hp,q⟩
 ·cases e
theorem to_app:To (zX i f Z) QS=∃ l,Z[i]?=some (some (.ow (.lst l)))/\Tv (f Z) (λp=>l.length<sizeLine/\QS (.nx (Z.set i (some (.ow (.lst (l++[p]))))))):=by
 refine propext ⟨?_,?_⟩
 ·rintro⟨r,e,c,q⟩;unfold zX at e;split at e
  ·rename_i l hl;refine⟨l,bO hl,?_⟩;rcases dg e with⟨z,e1,rfl⟩|⟨p,e1,e2⟩
   ·exact c.elim
   ·split at e2
    ·rename_i hlen;cases e2;exact⟨_,e1,hlen,q⟩
    ·cases e2
  ·cases e
 ·rintro⟨l,e,p,e1,h,q⟩;have eo:ownAt i Z=some (.lst l):=by unfold ownAt;rw[e]
  unfold To zX;rw[eo];exact⟨.nx _,by simp only[e1,gw];exact Zan h,trivial,q⟩
theorem pA{c:Int->Int->Bool}{F:Int->Int->PV}{x y:Int}{Q:PV->Prop}:Tv (MP.opI c F (.int x) (.int y)) Q=(c x y=true/\Q (F x y)):=cu
theorem tv_sub{x y:Int}{Q:PV->Prop}:Tv (zu (.int x) (.int y)) Q=Q (.int (x-y)):=by unfold zu;rw[pA];simp[cT]
theorem tv_and'{x y:Int}{Q:PV->Prop}:Tv (rE (.int x) (.int y)) Q=Q (.int (Builtin.bitAnd x y)):=by unfold rE;rw[pA];simp[cT]
theorem tv_or'{x y:Int}{Q:PV->Prop}:Tv (Wm (.int x) (.int y)) Q=Q (.int (Builtin.bitOr x y)):=by unfold Wm;rw[pA];simp[cT]
theorem tv_gt{x y:Int}{Q:PV->Prop}:Tv (JD (.int x) (.int y)) Q=Q (.bl (decide (y<x))):=by unfold JD;rw[pA];simp[cT]
theorem tv_ge{x y:Int}{Q:PV->Prop}:Tv (Q9 (.int x) (.int y)) Q=Q (.bl (decide (y<=x))):=by unfold Q9;rw[pA];simp[cT]
theorem tv_div{x y:Int}{Q:PV->Prop}:Tv (Bq (.int x) (.int y)) Q=((0<y/\y<1073741824)/\Q (.int (x/y))):=by unfold Bq;rw[pA];simp[Y4]
theorem tv_mod{x y:Int}{Q:PV->Prop}:Tv (iC (.int x) (.int y)) Q=(0<y/\Q (.int (x%y))):=by unfold iC;rw[pA];simp[aag]
theorem tv_pow{x y:Int}{Q:PV->Prop}:Tv (Ox (.int x) (.int y)) Q=((0<=y/\y<=1000000/\x.natAbs<2^64)/\Q (.int (x^y.toNat))):=by unfold Ox;rw[pA];simp[TF]
theorem tv_shl{x y:Int}{Q:PV->Prop}:Tv (zx (.int x) (.int y)) Q=((0<=y/\y<=1000000/\x.natAbs<2^64)/\Q (.int (x*2^y.toNat))):=by unfold zx;rw[pA];simp[TF]
theorem tv_shr{x y:Int}{Q:PV->Prop}:Tv (JC (.int x) (.int y)) Q=(0<=y/\Q (.int (x/2^y.toNat))):=by unfold JC;rw[pA];simp[aah]
theorem tv_add{x y:Int}{Q:PV->Prop}:Tv (eQ (.int x) (.int y)) Q=Q (.int (x+y)):=tv_some
theorem tv_addS{x y:Str}{Q:PV->Prop}:Tv (eQ (.str x) (.str y)) Q=(x.length+y.length<=sizeLine/\Q (.str (x++y))):=cu
theorem tv_addT{x y:List PV}{Q:PV->Prop}:Tv (eQ (.tup x) (.tup y)) Q=((x≠[]/\x.length+y.length<=sizeLine)/\Q (.tup (x++y))):=cu
theorem tv_mul{x y:Int}{Q:PV->Prop}:Tv (jw (.int x) (.int y)) Q=(Mj x y/\Q (.int (x*y))):=by
 show Tv (if Tz x y=true then _ else none) Q=_
 rw[cu];unfold Tz Mj;simp
theorem tv_mulS{z:Str}{n:Int}{Q:PV->Prop}:Tv (jw (.str z) (.int n)) Q=((-(2^63)<=n/\n<2^63/\z.length*n.toNat<=sizeLine)/\Q (.str (Y5 z n.toNat))):=cu
theorem tv_lt{x y:Int}{Q:PV->Prop}:Tv (En (.int x) (.int y)) Q=Q (.bl (decide (x<y))):=tv_some
theorem tv_ltS{x y:Str}{Q:PV->Prop}:Tv (En (.str x) (.str y)) Q=Q (.bl (decide (x.cps.toList<y.cps.toList))):=tv_some
theorem tv_le{x y:Int}{Q:PV->Prop}:Tv (Ra (.int x) (.int y)) Q=Q (.bl (decide (x<=y))):=tv_some
theorem tv_leS{x y:Str}{Q:PV->Prop}:Tv (Ra (.str x) (.str y)) Q=Q (.bl (!(decide (y.cps.toList<x.cps.toList)))):=tv_some
theorem tv_eq{p q:PV}{Q:PV->Prop}:Tv (m6 p q) Q=∃ r,eqF 32 p q=some r/\Q (.bl r):=by
 refine propext ⟨?_,λ⟨r,e,k⟩=>⟨_,by unfold m6;rw[e],k⟩⟩
 rintro⟨r,e,k⟩;unfold m6 at e;split at e
 ·rename_i b hb;cases e;exact⟨b,hb,k⟩
 ·cases e
theorem tv_ne{p q:PV}{Q:PV->Prop}:Tv (wL p q) Q=∃ r,eqF 32 p q=some r/\Q (.bl (!r)):=by
 refine propext ⟨?_,λ⟨r,e,k⟩=>⟨_,by unfold wL;rw[e],k⟩⟩
 rintro⟨r,e,k⟩;unfold wL at e;split at e
 ·rename_i b hb;cases e;exact⟨b,hb,k⟩
 ·cases e
theorem eqF_int(n:Nat)(i j:Int):eqF n (.int i) (.int j)=some (decide (i=j)):=by cases n<;>rfl
theorem eqF_str(n:Nat)(i j:Str):eqF n (.str i) (.str j)=some (decide (i=j)):=by cases n<;>rfl
theorem eqF_bl(n:Nat)(i j:Bool):eqF n (.bl i) (.bl j)=some (decide (i=j)):=by cases n<;>rfl
theorem tv_eqI{x y:Int}{Q:PV->Prop}:Tv (m6 (.int x) (.int y)) Q=Q (.bl (decide (x=y))):=by rw[tv_eq,eqF_int];simp
theorem tv_eqS{x y:Str}{Q:PV->Prop}:Tv (m6 (.str x) (.str y)) Q=Q (.bl (decide (x=y))):=by rw[tv_eq,eqF_str];simp
theorem tv_neI{x y:Int}{Q:PV->Prop}:Tv (wL (.int x) (.int y)) Q=Q (.bl (!decide (x=y))):=by rw[tv_ne,eqF_int];simp
theorem tv_neS{x y:Str}{Q:PV->Prop}:Tv (wL (.str x) (.str y)) Q=Q (.bl (!decide (x=y))):=by rw[tv_ne,eqF_str];simp
theorem tv_notin{p q:PV}{Q:PV->Prop}:Tv (mD p q) Q=∃ r,inU p q=some r/\Q (.bl (!r)):=by
 refine propext ⟨?_,λ⟨r,e,k⟩=>⟨_,by unfold mD;rw[e],k⟩⟩
 rintro⟨r,e,k⟩;unfold mD at e;split at e
 ·rename_i b hb;cases e;exact⟨b,hb,k⟩
 ·cases e
theorem tv_notN{p:PV}{Q:PV->Prop}:Tv (Br p .non) Q=Q (.bl (!p.ux)):=tv_some
theorem HB{x:Option PV}{Q:PV->Prop}:Tv (ofO x) Q=∃ p,x=some p/\Q p:=by
 refine propext ⟨?_,λ⟨p,e,k⟩=>⟨_,by subst e;rfl,k⟩⟩
 rintro⟨r,e,k⟩;obtain⟨p,e1,e2⟩:=wM e;cases e2;exact⟨_,e1,k⟩
theorem tv_ixL{l:List PV}{n:Int}{Q:PV->Prop}:Tv (bU (.lst l) (.int n)) Q=∃ p,atI l n=some p/\Q p:=HB
theorem tv_ixT{l:List PV}{n:Int}{Q:PV->Prop}:Tv (bU (.tup l) (.int n)) Q=∃ p,atI l n=some p/\Q p:=HB
theorem tv_ixV{l:List PV}{n:Int}{Q:PV->Prop}:Tv (FN l (.int n)) Q=∃ p,atI l n=some p/\Q p:=HB
theorem tv_ixS{z:Str}{n:Int}{Q:PV->Prop}:Tv (bU (.str z) (.int n)) Q=(z.length<=sizeLine/\∃ c,atI z.cps.toList n=some c/\Q (.str ⟨#[c]⟩)):=by
 show Tv (if z.length<=sizeLine then _ else none) Q=_
 by_cases hz:z.length<=sizeLine
 ·rw[Zan hz,HB];simp only[hz,true_and];refine propext ⟨?_,λ⟨c,e,k⟩=>⟨_,by rw[e];rfl,k⟩⟩
  rintro⟨p,e,k⟩;cases e1:atI z.cps.toList n with
  |none=>rw[e1] at e;cases e
  |some c=>rw[e1] at e;cases e;exact⟨c,rfl,k⟩
 ·rw[Zam hz];exact propext ⟨λ⟨r,e,q⟩=>(nomatch e),λ⟨z,_⟩=>absurd z hz⟩
theorem tv_lenS{z:Str}{Q:PV->Prop}:Tv (jF (.str z)) Q=(z.length<=sizeLine/\Q (.int z.length)):=cu
theorem tv_lenL{l:List PV}{Q:PV->Prop}:Tv (jF (.lst l)) Q=Q (.int l.length):=tv_some
theorem tv_lenT{l:List PV}{Q:PV->Prop}:Tv (jF (.tup l)) Q=Q (.int l.length):=tv_some
theorem tv_is{T:String}{Q:PV->Prop}:Tv (Bv p (.ty T)) Q=∃ b,isI p T=some b/\Q (.bl b):=by
 refine propext ⟨?_,λ⟨r,e,k⟩=>⟨_,by unfold Bv;simp only[e],k⟩⟩
 rintro⟨r,e,k⟩;unfold Bv at e;simp only at e;split at e
 ·rename_i b hb;cases e;exact⟨b,hb,k⟩
 ·cases e
theorem tv_asBl{b:Bool}{Q:Bool->Prop}:Tv (cW (.bl b)) Q=Q b:=tv_some
theorem tv_not{b:Bool}{Q:PV->Prop}:Tv (Tn (.bl b)) Q=Q (.bl (!b)):=tv_some
theorem tv_list{l:List PV}{Q:PV->Prop}:Tv (yD l) Q=Q (.lst l):=tv_some
theorem tv_cat{l m:List PV}{Q:PV->Prop}:Tv (FP l m) Q=(l.length+m.length<=sizeLine/\Q (.lst (l++m))):=cu
theorem tv_asSeqL{l:List PV}{Q:List PV->Prop}:Tv (lO (.lst l)) Q=Q l:=tv_some
theorem tv_asSeqT{l:List PV}{Q:List PV->Prop}:Tv (lO (.tup l)) Q=Q l:=tv_some
theorem tv_asSeqS{z:Str}{Q:List PV->Prop}:Tv (lO (.str z)) Q=Q (signs z):=tv_some
theorem tv_rng1{j:Int}{Q:List PV->Prop}:Tv (m7 [.int j]) Q=((-(2^62)<=j/\j<2^62)/\Q (qi 0 j.toNat)):=cu
theorem tv_rng2{x y:Int}{Q:List PV->Prop}:Tv (Hm [.int x,.int y]) Q=((-(2^62)<=x/\x<2^62/\-(2^62)<=y/\y<2^62)/\Q (qi x (y-x).toNat)):=cu
theorem tv_enum{l:List PV}{Q:List PV->Prop}:Tv (yC [.lst l]) Q=Q (qM l):=tv_some
theorem tv_pn{Q:Option Int->Prop}:Tv (mPn Z) Q=Q none:=tv_some
theorem tv_asInt{x:Int}{Q:Option Int->Prop}:Tv (asInt (.int x)) Q=Q (some x):=tv_some
theorem tv_slL{f:Fn (List PV)}{lo hi:Fn (Option Int)}{Q:PV->Prop}:Tv (Wn f lo hi Z) Q=Tv (f Z) (λl=>Tv (lo Z) (λa=>Tv (hi Z) (λb=>Q (.lst (Bt l a b))))):=by
 unfold Wn;simp only[tv_bnd,tv_some]
theorem tv_opSlT{l:List PV}{a b:Option Int}{Q:PV->Prop}:Tv (TX a b (.tup l)) Q=(¬(HT.sIx l.length 0 a=0/\HT.sIx l.length l.length b=l.length)/\Q (.tup (Bt l a b))):=cu
theorem tv_slT{lo hi:Fn (Option Int)}{Q:PV->Prop}:Tv (Wo f lo hi Z) Q=Tv (f Z) (λz=>Tv (lo Z) (λa=>Tv (hi Z) (λb=>Tv (TX a b z) Q))):=by
 unfold Wo;simp only[tv_bnd]
theorem tv_all{l:List PV}{Q:PV->Prop}:Tv (FQ l) Q=∃ bs,tu l=some bs/\Q (.bl (bs.all id)):=by
 refine propext ⟨?_,λ⟨r,e,k⟩=>⟨_,by unfold FQ;rw[e],k⟩⟩
 rintro⟨r,e,k⟩;unfold FQ at e;split at e
 ·rename_i b hb;cases e;exact⟨b,hb,k⟩
 ·cases e
end
section
variable{QS:Out->Prop}{Z:Rho}{j:Nat}
theorem finIO_nx{p:PV}:(aao j (some (.nx Z))=some (.ok p))=(Z[j]?=some (some (.ow p))):=by
 show((match ownAt j Z with|some p=>some (Res.ok p)|none=>none)=some (.ok p))=_
 cases h:ownAt j Z with
 |none=>exact propext ⟨λe=>(nomatch e),λe=>by unfold ownAt at h;rw[e] at h;cases h⟩
 |some q=>exact propext ⟨λe=>by cases e;exact bO h,λe=>by rw[bO h] at e;cases e;rfl⟩
theorem to_never:To (BJ Z) QS=False:=Hz
end
def turn(I:Rho->Prop)(QS:Out->Prop):Out->Prop
 |.nx Z=>I Z
 |.ct Z=>I Z
 |.bk Z=>QS (.nx Z)
 |o=>QS o
theorem turn_nx{I:Rho->Prop}{QS:Out->Prop}{Z:Rho}:turn I QS (.nx Z)=I Z:=rfl
theorem turn_ct{I:Rho->Prop}{QS:Out->Prop}{Z:Rho}:turn I QS (.ct Z)=I Z:=rfl
theorem turn_bk{I:Rho->Prop}{QS:Out->Prop}{Z:Rho}:turn I QS (.bk Z)=QS (.nx Z):=rfl
theorem turn_rt{I:Rho->Prop}{QS:Out->Prop}{p:PV}:turn I QS (.rt p)=QS (.rt p):=rfl
theorem turn_ro{I:Rho->Prop}{QS:Out->Prop}{p:PV}:turn I QS (.ro p)=QS (.ro p):=rfl
theorem turn_rd{I:Rho->Prop}{QS:Out->Prop}{p:PV}:turn I QS (.rd p)=QS (.rd p):=rfl
theorem PK{tg:PV->Rho->Option Rho}{body:Sn}{QS:Out->Prop}(I:Nat->Rho->Prop):∀ {l:List PV}{Z:Rho},I 0 Z ->
  (∀ (i:Nat) x Z,l[i]?=some x->I i Z->∃ ρ1,tg x Z=some ρ1/\To (body ρ1) (turn (I (i+1)) QS)) ->
  (∀ Z',I l.length Z'->QS (.nx Z'))->To (loop tg body l Z) QS:=by
 intro l;induction l generalizing I with
 |nil=>exact λh0 _ hd=>⟨_,rfl,trivial,hd _ h0⟩
 |cons x xs ih=>
  intro Z h0 hs hd;obtain⟨ρ1,e1,o,e2,c,q⟩:=hs 0 x Z rfl h0;unfold To;rw[loop,e1];simp only[e2];cases o with
  |nx ρ2=>exact ih (λi=>I (i+1)) q (λi y Z e=>hs (i+1) y Z (by simpa using e)) hd
  |ct ρ2=>exact ih (λi=>I (i+1)) q (λi y Z e=>hs (i+1) y Z (by simpa using e)) hd
  |bk ρ2=>exact⟨_,rfl,trivial,q⟩
  |rt p=>exact⟨_,rfl,trivial,q⟩
  |ro p=>exact⟨_,rfl,trivial,q⟩
  |rd p=>exact⟨_,rfl,trivial,q⟩
  |ex z=>exact c.elim
theorem Km{x:Option Out}{I:Rho->Prop}{Q:Out->Prop}(h:∀ QS:Out->Prop,(∀ Z,I Z->QS (.nx Z))->To x QS):To x (turn I Q):=h _ λ_ h=>h
theorem X6{x:Option Out}{I:Rho->Prop}{Q:Out->Prop}(h:∀ QS:Out->Prop,(∀ Z,I Z->QS (.nx Z))->(∀ Z,I Z->QS (.ct Z))->(∀ p,Q (.rt p)->QS (.rt p))->(∀ p,Q (.ro p)->QS (.ro p))->(∀ p,Q (.rd p)->QS (.rd p))->To x QS):To x (turn I Q):=h _ (λ_ h=>h) (λ_ h=>h) (λ_ h=>h) (λ_ h=>h) λ_ h=>h
theorem PL{x:Option Out}{Q:Out->Prop}(h:∀ QS:Out->Prop,(∀ o,Q o->QS o)->To x QS):To x Q:=h _ λ_ h=>h
theorem dU{j:Nat}{body:Sn}{QS:Out->Prop}(I:Nat->Rho->Prop){l:List PV}{Z:Rho}(h0:I 0 Z)
  (hs:∀ (i:Nat) x Z,l[i]?=some x->I i Z->To (body (Z.set j (some (.sh x)))) (turn (I (i+1)) QS))(hd:∀ Z',I l.length Z'->QS (.nx Z')):To (loop (gN j) body l Z) QS:=
 PK I h0 (λi x Z e hI=>⟨_,rfl,hs i x Z e hI⟩) hd
theorem De{a b:Nat}{body:Sn}{QS:Out->Prop}(I:Nat->Rho->Prop){l:List PV}{Z:Rho}(h0:I 0 Z)
  (hs:∀ (i:Nat) x Z,l[i]?=some x->I i Z->To (body ((Z.set a (some (.sh (.int i)))).set b (some (.sh x)))) (turn (I (i+1)) QS))(hd:∀ Z',I l.length Z'->QS (.nx Z')):To (loop (gT 2 (gsCons (gN a) (gsCons (gN b) gsNil))) body (qM l) Z) QS:=by
 have hl:(qM l).length=l.length:=by simp[qM]
 refine PK I h0 (λi x Z e hI=>?_) λZ'=>by rw[hl];exact hd Z'
 unfold qM at e;rw[Zcb] at e;cases h:l[i]? with
 |none=>rw[h] at e;cases e
 |some y=>
  rw[h] at e;cases e;exact⟨_,rfl,hs i y Z h hI⟩
theorem pN{fc:Fn Bool}{body:Sn}{QS:Out->Prop}(I:Nat->Rho->Prop):∀ {n:Nat}{Z:Rho},I n Z ->
  (∀ (n:Nat) Z,I n Z->Tv (fc Z) (λb=>if b=true then 0<n/\To (body Z) (turn (I (n-1)) QS) else QS (.nx Z)))->To (m5 fc body (n+1) Z) QS:=by
 intro n;induction n with
 |zero=>
  intro Z h0 hs;rw[m5,to_bnd];obtain⟨b,e,q⟩:=hs 0 Z h0;refine⟨b,e,?_⟩;cases b with
  |true=>exact absurd q.1 (ZbU _)
  |false=>exact⟨_,rfl,trivial,q⟩
 |succ n ih=>
  intro Z h0 hs;rw[m5,to_bnd];obtain⟨b,e,q⟩:=hs (n+1) Z h0;refine⟨b,e,?_⟩;cases b with
  |false=>exact⟨_,rfl,trivial,q⟩
  |true=>
   obtain⟨_,o,e2,c,q2⟩:=q;show To (if true=true then _ else _) QS
   rw[Zan rfl];simp only[e2];cases o with
   |nx ρ2=>exact ih q2 hs
   |ct ρ2=>exact ih q2 hs
   |bk ρ2=>exact⟨_,rfl,trivial,q2⟩
   |rt p=>exact⟨_,rfl,trivial,q2⟩
   |ro p=>exact⟨_,rfl,trivial,q2⟩
   |rd p=>exact⟨_,rfl,trivial,q2⟩
   |ex z=>exact c.elim
theorem fX{x:Option Out}{r:Res PV}(h:To x λo=>fin (some o)=some r):fin x=some r:=by
 obtain⟨o,e,_,q⟩:=h;rw[e];exact q
theorem qu{x:Option Out}{r:Res PV}(h:To x λo=>pH (some o)=some r):pH x=some r:=by
 obtain⟨o,e,_,q⟩:=h;rw[e];exact q
theorem HD{x:Option Out}{P:PV->Prop}(h:To x λo=>∃ p,fin (some o)=some (.ok p)/\P p):∃ p,fin x=some (.ok p)/\P p:=by
 obtain⟨o,e,_,q⟩:=h;rw[e];exact q
theorem tQ{x:Option Out}{P:PV->Prop}(h:To x λo=>∃ p,pH (some o)=some (.ok p)/\P p):∃ p,pH x=some (.ok p)/\P p:=by
 obtain⟨o,e,_,q⟩:=h;rw[e];exact q
theorem fin_nx{Z:Rho}:fin (some (.nx Z))=some (.ok .non):=rfl
theorem fin_rt{p:PV}:fin (some (.rt p))=some (.ok p):=rfl
theorem finO_ro{p:PV}:pH (some (.ro p))=some (.ok p):=rfl
theorem Df{tg:PV->Rho->Option Rho}{tst:Fn Bool}{el:Fn PV}{ρb:Rho}(t:PV->Bool)(f:PV->PV):∀ (l:List PV),
  (∀ x∈l,∃ ρ1,tg x ρb=some ρ1/\tst ρ1=some (.ok (t x))/\(t x=true->el ρ1=some (.ok (f x))))->fD tg tst el ρb l=some (.ok ((l.filter t).map f))
 |[],_=>rfl
 |x::xs,h=>by
  obtain⟨ρ1,e1,e2,e3⟩:=h x Zaw;have ih:=Df t f xs λy hy=>h y (Zaq _ hy);rw[fD,e1];simp only[e2,bnd];cases ht:t x with
  |true=>rw[Zan rfl,e3 ht];simp only[ih,ZbC,ht,Zbw,Zap]
  |false=>rw[Zam (by decide)];simp only[ih,ZbC,ht,Zbs,Zba]
theorem Rt{tg:PV->Rho->Option Rho}{el:Fn PV}{ρb:Rho}(f:PV->PV)(l:List PV)(h:∀ x∈l,∃ ρ1,tg x ρb=some ρ1/\el ρ1=some (.ok (f x))):fD tg rF el ρb l=some (.ok (l.map f)):=by
 have:=Df (tg:=tg) (tst:=rF) (el:=el) (ρb:=ρb) (λ_=>true) f l λx hx=>let⟨ρ1,a,b⟩:=h x hx;⟨ρ1,a,rfl,λ_=>b⟩
 rwa [Zbz.mpr λ_ _=>rfl] at this
theorem tv_compN{tg:PV->Rho->Option Rho}{tst:Fn Bool}{el:Fn PV}{ρb:Rho}{Q:List PV->Prop}:Tv (fD tg tst el ρb []) Q=Q []:=tv_some
theorem tv_compC{j:Nat}{tst:Fn Bool}{el:Fn PV}{ρb:Rho}{x:PV}{xs:List PV}{Q:List PV->Prop}:Tv (fD (gN j) tst el ρb (x::xs)) Q =
  Tv (tst (ρb.set j (some (.sh x)))) (λb=>if b=true then Tv (el (ρb.set j (some (.sh x)))) (λp=>Tv (fD (gN j) tst el ρb xs) (λr=>Q (p::r))) else Tv (fD (gN j) tst el ρb xs) Q):=by
 rw[fD];simp only[gN,tv_bnd,tv_ite,tv_some]
theorem tv_yes{Z:Rho}{Q:Bool->Prop}:Tv (rF Z) Q=Q true:=tv_some
theorem eV{α:Type}{x:Option (Res α)}{q:α}(h:Tv x λp=>p=q):x=some (.ok q):=by
 obtain⟨p,e,rfl⟩:=h;exact e
theorem aax{j:Nat}{el:Fn PV}{ρb:Rho}{l:List PV}(f:PV->PV)(h:∀ x∈l,Tv (el (ρb.set j (some (.sh x)))) λp=>p=f x):fD (gN j) rF el ρb l=some (.ok (l.map f)):=
 Rt f l λx hx=>⟨_,rfl,eV (h x hx)⟩
theorem aay{j:Nat}{tst:Fn Bool}{el:Fn PV}{ρb:Rho}{l:List PV}(t:PV->Bool)(f:PV->PV)(h:∀ x∈l,Tv (tst (ρb.set j (some (.sh x)))) λb=>b=t x)(h2:∀ x∈l,t x=true->Tv (el (ρb.set j (some (.sh x)))) λp=>p=f x) :
  fD (gN j) tst el ρb l=some (.ok ((l.filter t).map f)):=
 Df t f l λx hx=>⟨_,rfl,eV (h x hx),λht=>eV (h2 x hx ht)⟩
def szP(w h:Int):PV:=.tup [.int w,.int h]
def cellP(c:Int×Int):PV:=.tup [.int c.1,.int c.2]
theorem snocI(l:List Int)(a:Int):l.map PV.int++[PV.int a]=(l++[a]).map PV.int:=by rw[ZaJ];rfl
theorem snocS(l:List Str)(a:Str):l.map PV.str++[PV.str a]=(l++[a]).map PV.str:=by rw[ZaJ];rfl
theorem snocC(l:List (Int×Int))(a b:Int):l.map cellP++[PV.tup [.int a,.int b]]=(l++[(a,b)]).map cellP:=by rw[ZaJ];rfl
theorem is_non_int:isI .non "int"=some false:=rfl
theorem is_non_bool:isI .non "bool"=some false:=rfl
theorem is_non_str:isI .non "str"=some false:=rfl
theorem is_non_list:isI .non "list"=some false:=rfl
theorem is_non_tuple:isI .non "tuple"=some false:=rfl
theorem is_non_dict:isI .non "dict"=some false:=rfl
theorem is_bl_int{b:Bool}:isI (.bl b) "int"=some true:=rfl
theorem is_bl_bool{b:Bool}:isI (.bl b) "bool"=some true:=rfl
theorem is_bl_str{b:Bool}:isI (.bl b) "str"=some false:=rfl
theorem is_bl_list{b:Bool}:isI (.bl b) "list"=some false:=rfl
theorem is_bl_tuple{b:Bool}:isI (.bl b) "tuple"=some false:=rfl
theorem is_bl_dict{b:Bool}:isI (.bl b) "dict"=some false:=rfl
theorem is_int_int{i:Int}:isI (.int i) "int"=some true:=rfl
theorem is_int_bool{i:Int}:isI (.int i) "bool"=some false:=rfl
theorem is_int_str{i:Int}:isI (.int i) "str"=some false:=rfl
theorem is_int_list{i:Int}:isI (.int i) "list"=some false:=rfl
theorem is_int_tuple{i:Int}:isI (.int i) "tuple"=some false:=rfl
theorem is_int_dict{i:Int}:isI (.int i) "dict"=some false:=rfl
theorem is_str_int{z:Str}:isI (.str z) "int"=some false:=rfl
theorem is_str_bool{z:Str}:isI (.str z) "bool"=some false:=rfl
theorem is_str_str{z:Str}:isI (.str z) "str"=some true:=rfl
theorem is_str_list{z:Str}:isI (.str z) "list"=some false:=rfl
theorem is_str_tuple{z:Str}:isI (.str z) "tuple"=some false:=rfl
theorem is_str_dict{z:Str}:isI (.str z) "dict"=some false:=rfl
theorem is_tup_int{l:List PV}:isI (.tup l) "int"=some false:=rfl
theorem is_tup_bool{l:List PV}:isI (.tup l) "bool"=some false:=rfl
theorem is_tup_str{l:List PV}:isI (.tup l) "str"=some false:=rfl
theorem is_tup_list{l:List PV}:isI (.tup l) "list"=some false:=rfl
theorem is_tup_tuple{l:List PV}:isI (.tup l) "tuple"=some true:=rfl
theorem is_tup_dict{l:List PV}:isI (.tup l) "dict"=some false:=rfl
theorem is_lst_int{l:List PV}:isI (.lst l) "int"=some false:=rfl
theorem is_lst_bool{l:List PV}:isI (.lst l) "bool"=some false:=rfl
theorem is_lst_str{l:List PV}:isI (.lst l) "str"=some false:=rfl
theorem is_lst_list{l:List PV}:isI (.lst l) "list"=some true:=rfl
theorem is_lst_tuple{l:List PV}:isI (.lst l) "tuple"=some false:=rfl
theorem is_lst_dict{l:List PV}:isI (.lst l) "dict"=some false:=rfl
theorem Ko{α:Type}{g:α->PV}[DecidableEq α](h:∀ a b,eqF 31 (g a) (g b)=some (decide (a=b)))(a:α):∀ l:List α,inF (g a) (l.map g)=some (decide (a∈l))
 |[]=>rfl
 |x::xs=>by
  rw[Zap,inF,h x a,Ko h a xs];simp only[ZaA,Bool.decide_or];congr 2
  exact decide_eq_decide.mpr ⟨λe=>e.symm,λe=>e.symm⟩
theorem HF{α:Type}{g:α->PV}[DecidableEq α](h:∀ a b,eqF 31 (g a) (g b)=some (decide (a=b)))(a:α)(l:List α)[Decidable (a∈l)]:inF (g a) (l.map g)=some (decide (a∈l)):=by
 rw[Ko h a l];congr 1
 exact decide_eq_decide.mpr Iff.rfl
theorem Gk{ns:List Int}{i:Int}(h0:0<=i)(h:i<ns.length):atI (ns.map PV.int) i=some (.int (ns.getD i.toNat 0)):=by
 obtain⟨v,e1,e2⟩:=SN (xs:=ns.map PV.int) h0 (by rw[Zab];exact h)
 rw[e1];rw[Zad] at e2;have hl:i.toNat<ns.length:=by lia
 rw[Zae hl] at e2;rw[Zao,Zae hl];exact e2.symm
theorem atI_0{p:PV}{l:List PV}:atI (p::l) 0=some p:=qb (j:=0) rfl
theorem atI_1{p q:PV}{l:List PV}:atI (p::q::l) 1=some q:=qb (j:=1) rfl
theorem atI_2{p q r:PV}{l:List PV}:atI (p::q::r::l) 2=some r:=qb (j:=2) rfl
theorem atI_3{p q r s:PV}{l:List PV}:atI (p::q::r::s::l) 3=some s:=qb (j:=3) rfl
theorem tv_newD{Z:Rho}{Q:PV->Prop}:Tv (uy Z) Q=Q (.dk []):=tv_some
theorem is_dk_int{l:List (Key×PV)}:isI (.dk l) "int"=some false:=rfl
theorem is_dk_str{l:List (Key×PV)}:isI (.dk l) "str"=some false:=rfl
theorem tv_neg{i:Int}{Q:PV->Prop}:Tv (O4 (.int i)) Q=Q (.int (-i)):=tv_some
section
variable{Z:Rho}{f g h:Fn PV}{i:Nat}{Q:PV->Prop}{QS:Out->Prop}{d k x p:PV}{l:List PV}
theorem U5:Tv (asD p) Q=(p.isD=true/\Q p):=cu
theorem tv_viewD:Tv (BX f Z) Q=Tv (f Z) (λp=>p.isD=true/\Q p):=by unfold BX;rw[tv_bnd];simp only[U5]
theorem tv_viewDN:Tv (cg i Z) Q=Tv (mVL i Z) (λp=>p.isD=true/\Q p):=by unfold cg;rw[tv_bnd];simp only[U5]
theorem Al{α:Type}{o:Option α}{F:α->PV}:Tv (o.map λr=>Res.ok (F r)) Q=∃ r,o=some r/\Q (F r):=by
 cases o with
 |none=>exact propext ⟨(λ⟨_,e,_⟩=>by cases e),(λ⟨_,e,_⟩=>by cases e)⟩
 |some r=>exact propext ⟨λ⟨_,e,q⟩=>by cases e;exact⟨r,rfl,q⟩,λ⟨_,e,q⟩=>by cases e;exact⟨_,rfl,q⟩⟩
theorem tv_dget2:Tv (yE f g h Z) Q=Tv (f Z) (λd=>Tv (g Z) (λk=>Tv (h Z) (λx=>∃ r,eE d k=some r/\Q (r.getD x)))):=by
 unfold yE;simp only[tv_bnd,Al]
theorem tv_dget1:Tv (Ca f g Z) Q=Tv (f Z) (λd=>Tv (g Z) (λk=>∃ r,eE d k=some r/\Q (r.getD .non))):=by
 unfold Ca;simp only[tv_bnd,Al]
theorem tv_opDGet:Tv (gG d k) Q=∃ p,eE d k=some (some p)/\Q p:=by
 unfold gG;split
 ·rename_i p h;rw[h,tv_some];exact propext ⟨λq=>⟨p,rfl,q⟩,λ⟨_,e,q⟩=>by cases e;exact q⟩
 ·rename_i h;rw[tO];exact propext ⟨λz=>z.elim,λ⟨p,e,_⟩=>(h p e).elim⟩
theorem tv_opDIn:Tv (BZ k d) Q=∃ r,eE d k=some r/\Q (.bl r.isSome):=by unfold BZ;rw[Al]
theorem tv_opDNotIn:Tv (kJ k d) Q=∃ r,eE d k=some r/\Q (.bl (!r.isSome)):=by unfold kJ;rw[Al]
theorem tv_dictP:Tv (qj d l) Q=∃ ps d',jH l=some ps/\fK d ps=some d'/\Q d':=by
 unfold qj;split
 ·rename_i ps h;rw[h];refine propext ⟨?_,?_⟩
  ·rintro⟨r,e,q⟩;cases h2:fK d ps with
   |none=>rw[h2] at e;cases e
   |some d'=>rw[h2] at e;cases e;exact⟨ps,_,rfl,h2,q⟩
  ·rintro⟨ps',d',e1,e2,q⟩;cases e1;exact⟨d',by rw[e2];rfl,q⟩
 ·rename_i h;rw[tO];exact propext ⟨λz=>z.elim,λ⟨ps,_,e,_⟩=>by rw[h] at e;cases e⟩
theorem tv_newT:Tv (Ce Z) Q=Q (.dt []):=tv_some
theorem tv_ofR{mk:List PV->PV}{j:Int}:Tv (Ub mk (.int j)) Q=((-(2^30)<=j/\j<=1000000)/\Q (mk ((List.range j.toNat).map λi=>.int (i:Nat)))):=cu
theorem tv_inv{j:Int}:Tv (O6 (.int j)) Q=Q (.int (Builtin.bitNot j)):=tv_some
theorem to_dput:To (kO i f g Z) QS=Tv (f Z) (λp=>∃ d,Z[i]?=some (some (.ow d))/\Tv (g Z) (λk=>∃ d',zZ d k p=some d'/\QS (.nx (Z.set i (some (.ow d')))))):=by
 unfold kO;rw[to_bnd];congr 1;funext p
 refine propext ⟨?_,?_⟩
 ·rintro⟨r,e,c,q⟩;split at e
  ·rename_i d hd;refine⟨d,bO hd,?_⟩;rcases dg e with⟨z,e1,rfl⟩|⟨k,e1,e2⟩
   ·exact c.elim
   ·split at e2
    ·rename_i d' h';cases e2;exact⟨k,e1,d',h',q⟩
    ·cases e2
  ·cases e
 ·rintro⟨d,e,k,e1,d',h1,q⟩;refine⟨.nx (Z.set i (some (.ow d'))),?_,trivial,q⟩;have eo:ownAt i Z=some d:=by unfold ownAt;rw[e]
  rw[eo];simp only[e1,Wj,h1]
end
section
variable{l:List (Key×PV)}{t:List (List Key×PV)}{ks:List PV}{n:Int}{z:Str}{p:PV}
theorem dF_int:eE (.dk l) (.int n)=some (cI l (.inl n)):=rfl
theorem dF_str:eE (.dk l) (.str z)=some (cI l (.inr z)):=rfl
theorem dF_tup:eE (.dt t) (.tup ks)=(gF ks).map (cI t):=rfl
theorem vG:zZ (.dk l) (.int n) p=if l.length<sizeLine then some (.dk (iQ l (.inl n) p)) else none:=rfl
theorem isD_dk:(PV.dk l).isD=true:=rfl
theorem isD_dt:(PV.dt t).isD=true:=rfl
end
section
variable{κ:Type}[DecidableEq κ]
theorem nu(k j:κ)(p:PV):∀ l:List (κ×PV),cI (iQ l k p) j=if j=k then some p else cI l j
 |[]=>by
  unfold iQ cI;by_cases h:k=j
  ·rw[Zan h,Zan h.symm]
  ·rw[Zam h,Zam (Zbj h)];rfl
 |(a,q)::l=>by
  have ih:=nu k j p l;unfold iQ;by_cases h:a=k
  ·rw[Zan h];subst h;unfold cI;by_cases h2:a=j
   ·rw[Zan h2,Zan h2.symm]
   ·rw[Zam h2,Zam (Zbj h2),Zam h2];split
    ·rw[ih,Zam (Zbj h2)]
    ·rfl
  ·rw[Zam h];unfold cI;by_cases h2:a=j
   ·rw[Zan h2,Zan h2,Zam (λz=>h (h2.trans z))]
   ·rw[Zam h2,Zam h2,ih]
theorem pO(k:κ)(p:PV):∀ l:List (κ×PV),(iQ l k p).length<=l.length+1
 |[]=>by simp[iQ]
 |(a,q)::l=>by
  have ih:=pO k p l;unfold iQ;split
  ·split
   ·simp only[ZaQ];lia
   ·simp only[ZaQ];lia
  ·simp only[ZaQ];lia
end
section
variable{f g:Fn PV}{Z:Rho}{Q:PV->Prop}{QS:Out->Prop}{i:Nat}{p:PV}
theorem tv_deep:Tv (JT f Z) Q=Tv (f Z) (λp=>∃ l,p=.lst l/\l.all PV.still=true/\Q (.lst l)):=by
 unfold JT;rw[tv_bnd];congr 1;funext p
 refine propext ⟨?_,?_⟩
 ·rintro⟨r,e,q⟩;cases p with
  |lst l=>
   have e:(if l.all PV.still=true then some (Res.ok (PV.lst l)) else none)=some (.ok r):=e;split at e
   ·rename_i h;cases e;exact⟨l,rfl,h,q⟩
   ·cases e
  |_=>cases e
 ·rintro⟨l,rfl,h,q⟩;exact⟨_,Zan h,q⟩
theorem tv_still:Tv (vo f Z) Q=Tv (f Z) (λp=>p.still=true/\Q p):=by
 unfold vo;rw[tv_bnd];congr 1;funext p
 exact cu
theorem to_setD:To (uz i f Z) QS=Tv (f Z) (λp=>QS (.nx (Z.set i (some (.dp p))))):=by unfold uz;simp only[to_bnd,to_nx]
theorem to_retDp:To (vp i Z) QS=∃ p,Z[i]?=some (some (.dp p))/\QS (.rd p):=by
 refine propext ⟨?_,λ⟨p,e,q⟩=>⟨.rd p,by unfold vp rH;rw[e],trivial,q⟩⟩
 rintro⟨r,e,c,q⟩;unfold vp at e;split at e
 ·rename_i p hp;cases e;exact⟨p,du hp,q⟩
 ·cases e
theorem tv_fz:Tv (mFz i f Z) Q=∃ p,Z[i]?=some (some (.dp p))/\Tv (f (Z.set i (some (.sh p)))) (λq=>q.flat=true/\Q q):=by
 refine propext ⟨?_,λ⟨p,e,r,e2,c,q⟩=>⟨r,by unfold mFz rH;rw[e];simp only[e2,bnd];rw[Zan c],q⟩⟩
 rintro⟨r,e,q⟩;unfold mFz at e;split at e
 ·rename_i p hp;rcases bW e with⟨z,_,e3⟩|⟨a,e3,e4⟩
  ·cases e3
  ·split at e4
   ·rename_i c;cases e4;exact⟨p,du hp,r,e3,c,q⟩
   ·cases e4
 ·cases e
theorem finT_rd:yH (some (.rd p))=some (.ok p):=rfl
theorem WT{x:Option Out}{r:Res PV}(h:To x λo=>yH (some o)=some r):yH x=some r:=by
 obtain⟨o,e,_,q⟩:=h;rw[e];exact q
theorem Am{x:Option Out}{P:PV->Prop}(h:To x λo=>∃ p,yH (some o)=some (.ok p)/\P p):∃ p,yH x=some (.ok p)/\P p:=by
 obtain⟨o,e,_,q⟩:=h;rw[e];exact q
theorem WW{l:List PV}(h:Z[i]?=some (some (.dp (.lst l))))(hs:Tv (f Z) λq=>l.length<sizeLine/\QS (.nx (Z.set i (some (.dp (.lst (l++[q]))))))):To (JX i f Z) QS:=by
 obtain⟨r,e,c,q⟩:=hs;have ho:rH i Z=some (.lst l):=by unfold rH;rw[h]
 unfold JX;rw[ho];exact⟨.nx (Z.set i (some (.dp (.lst (l++[r]))))),by simp only[e,gw];rw[Zan c],trivial,q⟩
theorem WX{l:List PV}{n:Int}{j:Nat}{row:List PV}{q:PV}(h:Z[i]?=some (some (.dp (.lst l))))(hi:f Z=some (.ok (.int n)))(hj:ixN l.length n=some j)(hr:l[j]?=some (.lst row))(he:g Z=some (.ok q))(st:q.still=true)(hl:row.length<sizeLine)
  (hs:QS (.nx (Z.set i (some (.dp (.lst (l.set j (.lst (row++[q])))))))) ):To (JW i f g Z) QS:=by
 have ho:rH i Z=some (.lst l):=by unfold rH;rw[h]
 unfold JW;rw[ho];exact⟨.nx (Z.set i (some (.dp (.lst (l.set j (.lst (row++[q]))))))),by simp only[hi,gw,hj,hr,he];rw[Zan ⟨st,hl⟩],trivial,hs⟩
theorem tv_zip{l m:List PV}{Q:List PV->Prop}:Tv (Ui [.lst l,.lst m]) Q=Q (M8 l m):=tv_some
end
section
variable{f:Fn PV}{Z:Rho}{Q:PV->Prop}{QS:Out->Prop}{i j:Nat}{s:Sn}{p:PV}
theorem tv_dkeys{l:List (Key×PV)}{Q:List PV->Prop}:Tv (Ai (.dk l)) Q=Q (Cq l):=tv_some
theorem tv_ditems{l:List (Key×PV)}{Q:List PV->Prop}:Tv (Cv (.dk l)) Q=Q (vA l):=tv_some
theorem tv_sort{l:List PV}:Tv (Cu l) Q=∃ ns,iM l=some ns/\ns.length<64/\Q (.lst ((srt ns).map .int)):=by
 unfold Cu;split
 ·rename_i ns h;rw[h,cu];exact propext ⟨λq=>⟨ns,rfl,q⟩,λ⟨_,e,q⟩=>by cases e;exact q⟩
 ·rename_i h;rw[tO];exact propext ⟨λz=>z.elim,λ⟨_,e,_⟩=>by rw[h] at e;cases e⟩
theorem nq:∀ ns:List Int,iM (ns.map .int)=some ns
 |[]=>rfl
 |n::ns=>by show(iM (ns.map .int)).map (n::·)=_;rw[nq ns];rfl
theorem tv_sortD{l:List (Key×PV)}:Tv (w6 (.dk l)) Q=∃ ns,pJ (l.map (·.1))=some ns/\ns.length<64/\Q (.lst ((srt ns).map .int)):=by
 show Tv (match pJ (l.map (·.1)) with
  |some ns=>if ns.length<64 then some (.ok (.lst ((srt ns).map .int))) else none
  |none=>none) Q=_
 split
 ·rename_i ns h;rw[h,cu];exact propext ⟨λq=>⟨ns,rfl,q⟩,λ⟨_,e,q⟩=>by cases e;exact q⟩
 ·rename_i h;rw[tO];exact propext ⟨λz=>z.elim,λ⟨_,e,_⟩=>by rw[h] at e;cases e⟩
theorem tv_holdE:Tv (ni i f Z) Q=∃ p,Z[i]?=some (some (.sh p))/\p.isD=true/\Tv (f Z) Q:=by
 refine propext ⟨?_,λ⟨p,e,d,r,e2,q⟩=>⟨r,by unfold ni;rw[e];simp only;rw[Zan d];exact e2,q⟩⟩
 rintro⟨r,e,q⟩;unfold ni at e;split at e
 ·rename_i p hp;split at e
  ·rename_i d;exact⟨p,hp,d,r,e,q⟩
  ·cases e
 ·cases e
def PN(QS:Out->Prop):Out->Prop
 |.rd _=>False
 |o=>QS o
theorem holdQ_nx:PN QS (.nx Z)=QS (.nx Z):=rfl
theorem holdQ_rt:PN QS (.rt p)=QS (.rt p):=rfl
theorem holdQ_ro:PN QS (.ro p)=QS (.ro p):=rfl
theorem to_hold:To (zA i s Z) QS=∃ p,Z[i]?=some (some (.sh p))/\p.isD=true/\To (s Z) (PN QS):=by
 refine propext ⟨?_,λ⟨p,e,d,o,e2,c,q⟩=>⟨o,?_,c,?_⟩⟩
 ·rintro⟨o,e,c,q⟩;unfold zA at e;split at e
  ·rename_i p hp;split at e
   ·rename_i d;refine⟨p,hp,d,o,?_⟩;split at e
    ·cases e
    ·rename_i x hx;refine⟨e,c,?_⟩;cases o with
     |rd y=>exact(hx y e).elim
     |_=>exact q
   ·cases e
  ·cases e
 ·unfold zA;rw[e];simp only;rw[Zan d,e2];cases o with
  |rd y=>exact q.elim
  |_=>rfl
 ·cases o with
  |rd y=>exact q.elim
  |_=>exact q
theorem to_io2{m:List PV->Option (Res PV)}{f:Fn (List PV)}:To (Nb i j m f Z) QS=∃ p q,Z[i]?=some (some (.ow p))/\Z[j]?=some (some (.ow q))/\Tv (f Z) (λl=>∃ p' q',m (p::q::l)=some (.ok (.tup [p',q']))/\QS (.nx ((Z.set i (some (.ow p'))).set j (some (.ow q'))))):=by
 refine propext ⟨λh=>?_,?_⟩
 ·unfold Nb at h;rw[to_bnd] at h;obtain⟨l,e,o,e2,c,h⟩:=h;unfold Aj at e;split at e
  ·rename_i p q h1 h2;rcases bW e with⟨z,_,e3⟩|⟨l',e3,e4⟩
   ·cases e3
   ·cases e4;split at e2
    ·rename_i p' q' hm;cases e2;exact⟨p,q,bO h1,bO h2,l',e3,p',q',hm,h⟩
    ·cases e2
  ·cases e
 ·rintro⟨p,q,e1,e2,l,e3,p',q',e4,h⟩;have o1:ownAt i Z=some p:=by unfold ownAt;rw[e1]
  have o2:ownAt j Z=some q:=by unfold ownAt;rw[e2]
  refine⟨.nx ((Z.set i (some (.ow p'))).set j (some (.ow q'))),?_,trivial,h⟩;unfold Nb Aj;rw[o1,o2];simp only[e3,bnd,gw,e4]
theorem tv_callT{m:List PV->Option (Res PV)}{f:Fn (List PV)}:Tv (Cw m f Z) Q=Tv (f Z) (λl=>Tv (m l) Q):=by
 unfold Cw;rw[tv_bnd];congr 1;funext l
 refine propext ⟨?_,λ⟨r,e,q⟩=>⟨r,by rw[e],q⟩⟩
 rintro⟨r,e,q⟩;split at e
 ·rename_i p hp;cases e;exact⟨_,hp,q⟩
 ·cases e
theorem to_frzD:To (uA i s Z) QS=∃ p,Z[i]?=some (some (.dp p))/\To (s (Z.set i (some (.sh p)))) QS:=by
 refine propext ⟨?_,λ⟨p,e,r,e2,q⟩=>⟨r,by unfold uA rH;rw[e];exact e2,q⟩⟩
 rintro⟨r,e,q⟩;unfold uA at e;split at e
 ·rename_i p hp;exact⟨p,du hp,r,e,q⟩
 ·cases e
theorem tv_ownD:Tv (nj i Z) Q=∃ p,Z[i]?=some (some (.ow p))/\p.mH=true/\Q p:=by
 refine propext ⟨?_,λ⟨p,e,h,q⟩=>⟨p,by unfold nj ownAt;rw[e];simp only;rw[Zan h],q⟩⟩
 rintro⟨r,e,q⟩;unfold nj at e;split at e
 ·rename_i p hp;split at e
  ·rename_i h;cases e;exact⟨_,bO hp,h,q⟩
  ·cases e
 ·cases e
theorem to_retT{f:Fn (List PV)}:To (zB f Z) QS=Tv (f Z) (λl=>l.length<=sizeLine/\QS (.rd (.tup l))):=by
 unfold zB;rw[to_bnd];congr 1;funext l
 by_cases h:l.length<=sizeLine
 ·rw[Zan h,to_rd];simp[h]
 ·rw[Zam h,Hz];simp[h]
theorem tR{x:Option Out}{P:PV->Prop}(h:To x λo=>∃ p,vy (some o)=some (.ok p)/\P p):∃ p,vy x=some (.ok p)/\P p:=by
 obtain⟨o,e,_,q⟩:=h;rw[e];exact q
end
def qw:Sn:=
 (fu (uv (m2 Bv (mVL 0) (mC (.ty "int"))) (m1 Tn (m2 Bv (mVL 0) (mC (.ty "bool"))))))
def jY:List PV->Option (Res PV)
 |[a0]=>fin (qw (startR [a0] 0))
 |_=>none
def vH:Sn:=
 (fu (m2 eQ (m2 jw (m2 bU (mV 1) (mC (.int 1))) (m2 bU (mV 0) (mC (.int 0)))) (m2 bU (mV 1) (mC (.int 0)))))
def jZ:List PV->Option (Res PV)
 |[a0,a1]=>fin (vH (startR [a0,a1] 0))
 |_=>none
def vI:Sn:=
 (fu (m2 m6 (m2 rE (m2 JC (mV 1) (bC jZ (az (mV 0) (az (mV 2) bc)))) (mC (.int 1))) (mC (.int 1))))
def j4:List PV->Option (Res PV)
 |[a0,a1,a2]=>fin (vI (startR [a0,a1,a2] 0))
 |_=>none
def rO:Sn:=
 (uw (fZ (m1 m7 (az (m2 jw (m2 bU (mV 0) (mC (.int 0))) (m2 bU (mV 0) (mC (.int 1)))) bc)) [none,some 0] (gN 0) rF (nY (az (m2 iC (mV 0) (m2 bU (mV 1) (mC (.int 0)))) (az (m2 Bq (mV 0) (m2 bU (mV 1) (mC (.int 0)))) bc)))))
def oF:List PV->Option (Res PV)
 |[a0]=>pH (rO (startR [a0] 0))
 |_=>none
def xF:Sn:=
 (fu (m2 zu (m2 zx (mC (.int 1)) (m2 jw (m2 bU (mV 0) (mC (.int 0))) (m2 bU (mV 0) (mC (.int 1))))) (mC (.int 1))))
def pP:List PV->Option (Res PV)
 |[a0]=>fin (xF (startR [a0] 0))
 |_=>none
def Dg:Sn:=
 (cN (m2 Wm (mV 2) (m2 zx (mC (.int 1)) (bC jZ (az (mV 0) (az (mV 3) bc))))) (gN 2))
def Dh:Sn:=
 (fu (mV 2))
def Di:Sn:=
 (aY (cN (mC (.int 0)) (gN 2))
   (aY (ph (m1 lO (mV 1)) (gN 3)
    Dg)
   Dh))
def pQ:List PV->Option (Res PV)
 |[a0,a1]=>fin (Di (startR [a0,a1] 2))
 |_=>none
def vJ:Sn:=
 (uw (fZ (m1 lO (bC oF (az (mV 0) bc))) [none,some 0,some 1] (gN 0) (m1 cW (bC j4 (az (mV 1) (az (mV 2) (az (mV 0) bc))))) (mV 0)))
def jq:List PV->Option (Res PV)
 |[a0,a1]=>pH (vJ (startR [a0,a1] 0))
 |_=>none
def xG:Sn:=
 (fu (m2 m6 (m2 rE (mV 0) (mV 1)) (mVL 0)))
def xH:List PV->Option (Res PV)
 |[a0,a1]=>fin (xG (startR [a0,a1] 0))
 |_=>none
def Dj:Sn:=
 (zB (az (vo (mV 7)) (az (nj 3) (az (nj 4) bc))))
def Dk:Sn:=
 (zX 3 (m2 gG (cg 1) (mV 7)))
def Dl:Sn:=
 (aY (kO 4 (mV 6) (mV 7))
     (aY (iG (m1 cW (m2 kJ (mV 7) (cg 1)))
      Dj
      d8)
     Dk))
def Dm:Sn:=
 (aY (iG (m1 cW (m2 BZ (mV 7) (cg 4)))
      Ou
      d8)
     Dl)
def Do:Sn:=
 (cN (m2 eQ (mV 5) (mC (.int 1))) (gN 5))
def Dq:Sn:=
 (aY (cN (m2 FN (lG 3) (mV 5)) (gN 6))
    (aY (ph (m1 lO (m2 gG (cg 0) (mV 6))) (gN 7)
     Dm)
    Do))
def Dr:Sn:=
 (zB (az (vo (mC .non)) (az (nj 3) (az (nj 4) bc))))
def Ds:Sn:=
 (aY (gD 3 (m1 yD (lG 2)))
   (aY (gD 4 Ce)
   (aY (cN (mC (.int 0)) (gN 5))
   (aY (m5 (m1 cW (m2 En (mV 5) (m1 jF (mVL 3))))
    Dq 2000)
   Dr))))
def nA:List PV->Option (Res PV)
 |[a0,a1,a2]=>yH (Ds (startR [a0,a1,a2] 5))
 |_=>none
def uD:Sn:=
 (aY (cN (m2 gG (cg 2) (mV 4)) (gN 5))
    (aY (cN (Ca (cg 0) (mV 5)) (gN 6))
    (aY (kO 0 (mV 4) (mV 5))
    (aY (kO 1 (mV 5) (mV 4))
    (cN (mV 6) (gN 4))))))
def kY:Sn:=
 (aY (cN (mV 3) (gN 4))
   (m5 (m1 cW (m2 Br (mVL 4) (mC .non)))
    uD 2000))
def gH:List PV->Option (Res PV)
 |[a0,a1,a2,a3]=>vy (kY (dR [a0,a1,a2,a3] 3))
 |_=>none
def rP:Sn:=
 (aY (uz 4 (Cw nA (az (mVL 0) (az (mVL 2) (az (u6 (az (mV 3) bc)) bc)))))
    (uA 4 (Nb 1 2 gH (az (m2 bU (mV 4) (mC (.int 2))) (az (m2 bU (mV 4) (mC (.int 0))) bc)))))
def rQ:Sn:=
 (lE 1)
def qx:Sn:=
 (aY (gD 1 Ce)
   (aY (gD 2 Ce)
   (aY (zA 0 (ph (m1 xu (mV 0)) (gN 3)
    rP))
   rQ)))
def jJ:List PV->Option (Res PV)
 |[a0]=>pH (qx (startR [a0] 4))
 |_=>none
def jK:Sn:=
 (aY (cN (m1 (qj (.dt [])) (pG (ni 1 (fZ (m1 xx (mV 1)) [none,none] (gT 2 (gsCons (gN 0) (gsCons (gN 1) gsNil))) rF (nY (az (mV 1) (az (mV 0) bc))))))) (gN 2))
   (aY (uz 3 (bC nA (az (mV 0) (az (mV 2) (az (ni 0 (fZ (m1 xu (mV 0)) [none,some 1] (gN 0) (m1 cW (m2 kJ (mV 0) (cg 1))) (mV 0))) bc)))))
   (uA 3 (fu (nY (az (m1 tM (pG (m2 bU (mV 3) (mC (.int 1))))) (az (m1 CV (BX (m2 bU (mV 3) (mC (.int 2))))) bc)))))))
def gh:List PV->Option (Res PV)
 |[a0,a1]=>fin (jK (startR [a0,a1] 2))
 |_=>none
def xJ:Sn:=
 (zB (az (vo (mV 7)) (az (nj 3) (az (nj 4) bc))))
def xK:Sn:=
 (zX 3 (m2 gG (cg 1) (mV 7)))
def xM:Sn:=
 (aY (kO 4 (mV 6) (mV 7))
     (aY (iG (m1 cW (m2 kJ (mV 7) (cg 1)))
      xJ
      d8)
     xK))
def xN:Sn:=
 (aY (iG (m1 cW (m2 BZ (mV 7) (cg 4)))
      Ou
      d8)
     xM)
def xO:Sn:=
 (cN (m2 eQ (mV 5) (mC (.int 1))) (gN 5))
def xP:Sn:=
 (aY (cN (m2 FN (lG 3) (mV 5)) (gN 6))
    (aY (ph (m1 lO (m2 gG (cg 0) (mV 6))) (gN 7)
     xN)
    xO))
def xQ:Sn:=
 (zB (az (vo (mC .non)) (az (nj 3) (az (nj 4) bc))))
def vK:Sn:=
 (aY (gD 3 (m1 yD (lG 2)))
   (aY (gD 4 uy)
   (aY (cN (mC (.int 0)) (gN 5))
   (aY (m5 (m1 cW (m2 En (mV 5) (m1 jF (mVL 3))))
    xP 200)
   xQ))))
def jr:List PV->Option (Res PV)
 |[a0,a1,a2]=>yH (vK (startR [a0,a1,a2] 5))
 |_=>none
def qN:Sn:=
 (aY (cN (m2 gG (cg 2) (mV 4)) (gN 5))
    (aY (cN (Ca (cg 0) (mV 5)) (gN 6))
    (aY (kO 0 (mV 4) (mV 5))
    (aY (kO 1 (mV 5) (mV 4))
    (cN (mV 6) (gN 4))))))
def iZ:Sn:=
 (aY (cN (mV 3) (gN 4))
   (m5 (m1 cW (m2 Br (mVL 4) (mC .non)))
    qN 200))
def eO:List PV->Option (Res PV)
 |[a0,a1,a2,a3]=>vy (iZ (dR [a0,a1,a2,a3] 3))
 |_=>none
def pR:Sn:=
 (aY (uz 4 (Cw jr (az (mVL 0) (az (mVL 2) (az (u6 (az (mV 3) bc)) bc)))))
    (uA 4 (Nb 1 2 eO (az (m2 bU (mV 4) (mC (.int 2))) (az (m2 bU (mV 4) (mC (.int 0))) bc)))))
def pU:Sn:=
 (lE 1)
def nC:Sn:=
 (aY (gD 1 uy)
   (aY (gD 2 uy)
   (aY (zA 0 (ph (m1 Ai (mV 0)) (gN 3)
    pR))
   pU)))
def gJ:List PV->Option (Res PV)
 |[a0]=>pH (nC (startR [a0] 4))
 |_=>none
def iR:Sn:=
 (aY (cN (m1 (qj (.dk [])) (pG (ni 1 (fZ (m1 Cv (mV 1)) [none,none] (gT 2 (gsCons (gN 0) (gsCons (gN 1) gsNil))) rF (nY (az (mV 1) (az (mV 0) bc))))))) (gN 2))
   (aY (uz 3 (bC jr (az (mV 0) (az (mV 2) (az (ni 0 (fZ (m1 Ai (mV 0)) [none,some 1] (gN 0) (m1 cW (m2 kJ (mV 0) (cg 1))) (mV 0))) bc)))))
   (uA 3 (fu (nY (az (m1 Cu (pG (m2 bU (mV 3) (mC (.int 1))))) (az (m1 w6 (BX (m2 bU (mV 3) (mC (.int 2))))) bc)))))))
def eY:List PV->Option (Res PV)
 |[a0,a1]=>fin (iR (startR [a0,a1] 2))
 |_=>none
def jL:Sn:=
 (uw (fZ (m1 m7 (az (mV 1) bc)) [none,some 0,some 1] (gN 0) (m1 cW (bC xH (az (m2 bU (mV 1) (mV 2)) (az (m2 bU (mV 1) (mV 0)) bc)))) (mV 0)))
def jM:List PV->Option (Res PV)
 |[a0,a1]=>pH (jL (startR [a0,a1] 0))
 |_=>none
def uE:Sn:=
 (aY (kO 3 (m2 gG (cg 3) (m2 gG (cg 1) (mV 4))) (mV 4))
     (JW 2 (m2 gG (cg 3) (mV 4)) (mV 4)))
def uF:Sn:=
 (aY (kO 3 (mFz 2 (m1 jF (mVL 2))) (mV 4))
     (JX 2 (JT (u6 (az (mV 4) bc)))))
def uG:Sn:=
 (iG (m1 cW (m2 BZ (mV 4) (cg 1)))
     uE
     uF)
def uH:Sn:=
 (vp 2)
def oG:Sn:=
 (aY (uz 2 (JT (u6 bc)))
   (aY (gD 3 uy)
   (aY (ph (m1 m7 (az (mV 0) bc)) (gN 4)
    uG)
   uH)))
def jz:List PV->Option (Res PV)
 |[a0,a1]=>yH (oG (startR [a0,a1] 3))
 |_=>none
def ji:Sn:=
 (aY (cN (m1 (qj (.dk [])) (pG (fZ (m1 m7 (az (m1 jF (mVL 0)) bc)) [none,some 0] (gN 0) rF (nY (az (mV 0) (az (bC jM (az (mV 1) (az (mV 0) bc))) bc)))))) (gN 1))
   (aY (cN (bC gJ (az (mV 1) bc)) (gN 2))
   (aY (cN (bC eY (az (mV 1) (az (mV 2) bc))) (gN 3))
   (aY (gD 4 (fZ (m1 lO (m2 bU (mV 3) (mC (.int 0)))) [none,some 3] (gN 0) (m1 cW (m2 mD (mVL 0) (m2 bU (mV 1) (mC (.int 1))))) (mV 0)))
   (zB (az (bC jz (az (m1 jF (mVL 0)) (az (mV 2) bc))) (az (nj 4) bc)))))))
def cV:List PV->Option (Res PV)
 |[a0]=>yH (ji (startR [a0] 4))
 |_=>none
def Es:Sn:=
 (fu (mC (.bl false)))
def Et:Sn:=
 (fu (mC (.bl false)))
def uI:Sn:=
 (fu (uv (m1 FQ (pG (fZ (m1 lO (Wo (mV 0) (m1 asInt (mC (.int 1))) mPn)) [none] (gN 0) rF (bC jY (az (mV 0) bc))))) (m2 Ra (m2 bU (mV 0) (mC (.int 2))) (m2 bU (mV 0) (mC (.int 3))))))
def uJ:Sn:=
 (aY (iG (mOr (Bp (m1 cW (m2 Bv (m2 bU (mV 0) (mC (.int 0))) (mC (.ty "str"))))) (m1 cW (m2 mD (m2 bU (mV 0) (mC (.int 0))) (nY (az (mC (.str "row")) (az (mC (.str "column")) bc))))))
    Et
    d8)
   uI)
def oH:Sn:=
 (aY (iG (mOr (Bp (m1 cW (m2 Bv (mVL 0) (mC (.ty "tuple"))))) (m1 cW (m2 wL (m1 jF (mVL 0)) (mC (.int 4)))))
    Es
    d8)
   uJ)
def oJ:List PV->Option (Res PV)
 |[a0]=>fin (oH (startR [a0] 0))
 |_=>none
def qy:Sn:=
 (fu (mIf (m1 cW (m2 m6 (mVL 1) (mC (.str "row")))) (m2 bU (mV 0) (mC (.int 1))) (m2 bU (mV 0) (mC (.int 0)))))
def j5:List PV->Option (Res PV)
 |[a0,a1]=>fin (qy (startR [a0,a1] 0))
 |_=>none
def oK:Sn:=
 (fu (mIf (m1 cW (m2 m6 (mVL 1) (mC (.str "row")))) (m2 bU (mV 0) (mC (.int 0))) (m2 bU (mV 0) (mC (.int 1)))))
def jA:List PV->Option (Res PV)
 |[a0,a1]=>fin (oK (startR [a0,a1] 0))
 |_=>none
def Kp:Sn:=
 (fu (mC (.bl false)))
def zJ:Sn:=
 (fu (uv (Hf Ra En (mC (.int 0)) (m2 bU (mV 1) (mC (.int 1))) (bC j5 (az (mV 0) (az (m2 bU (mV 1) (mC (.int 0))) bc)))) (uv (m2 Ra (mC (.int 0)) (m2 bU (mV 1) (mC (.int 2)))) (m2 En (m2 bU (mV 1) (mC (.int 3))) (bC jA (az (mV 0) (az (m2 bU (mV 1) (mC (.int 0))) bc)))))))
def tU:Sn:=
 (aY (iG (Bp (m1 cW (bC oJ (az (mV 1) bc))))
    Kp
    d8)
   zJ)
def tV:List PV->Option (Res PV)
 |[a0,a1]=>fin (tU (startR [a0,a1] 0))
 |_=>none
def pW:Sn:=
 (uw (fZ (m1 Hm (az (m2 bU (mV 0) (mC (.int 2))) (az (m2 eQ (m2 bU (mV 0) (mC (.int 3))) (mC (.int 1))) bc))) [none,some 0] (gN 0) rF (nY (az (mV 0) (az (m2 bU (mV 1) (mC (.int 1))) bc)))))
def pX:Sn:=
 (uw (fZ (m1 Hm (az (m2 bU (mV 0) (mC (.int 2))) (az (m2 eQ (m2 bU (mV 0) (mC (.int 3))) (mC (.int 1))) bc))) [none,some 0] (gN 0) rF (nY (az (m2 bU (mV 1) (mC (.int 1))) (az (mV 0) bc)))))
def jN:Sn:=
 (aY (iG (m1 cW (m2 m6 (m2 bU (mV 0) (mC (.int 0))) (mC (.str "row"))))
    pW
    d8)
   pX)
def di:List PV->Option (Res PV)
 |[a0]=>pH (jN (startR [a0] 0))
 |_=>none
def oM:Sn:=
 (fu (bC pQ (az (mV 0) (az (bC di (az (mV 1) bc)) bc))))
def oN:List PV->Option (Res PV)
 |[a0,a1]=>fin (oM (startR [a0,a1] 0))
 |_=>none
def gj:Sn:=
 (aY (cN (m2 zu (bC jA (az (mV 0) (az (mV 2) bc))) (mC (.int 1))) (gN 4))
   (aY (cN (bC di (az (nY (az (mV 2) (az (mV 3) (az (mC (.int 0)) (az (mV 4) bc))))) bc)) (gN 5))
   (aY (cN (m2 FP (pG (m2 FP (pG (u6 (az (m1 O4 (mC (.int 1))) bc))) (pG (fZ (m1 yC (az (mV 5) bc)) [none,none,some 0,some 1] (gT 2 (gsCons (gN 0) (gsCons (gN 1) gsNil))) (m1 cW (bC j4 (az (mV 2) (az (mV 3) (az (mV 1) bc))))) (mV 0))))) (pG (u6 (az (m2 eQ (mV 4) (mC (.int 1))) bc)))) (gN 6))
   (uw (fZ (m1 Ui (az (mV 6) (az (Wn (lG 6) (m1 asInt (mC (.int 1))) mPn) bc))) [none,none,some 2,some 3] (gT 2 (gsCons (gN 0) (gsCons (gN 1) gsNil))) (m1 cW (m2 En (m2 eQ (mV 0) (mC (.int 1))) (mV 1))) (nY (az (mV 2) (az (mV 3) (az (m2 eQ (mV 0) (mC (.int 1))) (az (m2 zu (mV 1) (mC (.int 1))) bc))))))))))
def gk:List PV->Option (Res PV)
 |[a0,a1,a2,a3]=>pH (gj (startR [a0,a1,a2,a3] 3))
 |_=>none
def lR:Sn:=
 (kO 3 (mV 5) (mV 6))
def lU:Sn:=
 (ph (m1 lO (bC di (az (mV 5) bc))) (gN 6)
      lR)
def lV:Sn:=
 (ph (m1 lO (bC gk (az (mV 0) (az (mV 1) (az (mV 2) (az (mV 4) bc)))))) (gN 5)
     lU)
def lW:Sn:=
 (lE 3)
def jO:Sn:=
 (aY (gD 3 Ce)
   (aY (ph (m1 m7 (az (bC j5 (az (mV 0) (az (mV 2) bc))) bc)) (gN 4)
    lV)
   lW))
def dw:List PV->Option (Res PV)
 |[a0,a1,a2]=>pH (jO (startR [a0,a1,a2] 4))
 |_=>none
def uK:Sn:=
 (xn 5 (m2 gG (cg 3) (mV 6)) (m2 gG (cg 4) (mV 6)))
def uL:Sn:=
 (vp 5)
def rR:Sn:=
 (aY (cN (bC dw (az (mV 0) (az (mV 2) (az (mC (.str "row")) bc)))) (gN 3))
   (aY (cN (bC dw (az (mV 0) (az (mV 2) (az (mC (.str "column")) bc)))) (gN 4))
   (aY (uz 5 (X3 Ce))
   (aY (ph (m1 lO (bC jq (az (mV 0) (az (mV 1) bc)))) (gN 6)
    uK)
   uL))))
def kZ:List PV->Option (Res PV)
 |[a0,a1,a2]=>yH (rR (startR [a0,a1,a2] 4))
 |_=>none
def vL:Sn:=
 BJ
def nG:Sn:=
 (aY (uz 4 (bC kZ (az (mV 0) (az (mV 1) (az (mV 2) bc)))))
   (aY (uA 4 (cN (bC jJ (az (mV 4) bc)) (gN 5)))
   (aY (cN (bC gh (az (mV 4) (az (mV 5) bc))) (gN 6))
   (aY (cN (m2 FP (pG (ni 4 (fZ (m1 xu (mV 4)) [none,some 6] (gN 0) (m1 cW (m2 mD (mVL 0) (m2 bU (mV 1) (mC (.int 0))))) (mV 0)))) (pG (m2 bU (mV 6) (mC (.int 1))))) (gN 7))
   (aY (cN (bC pQ (az (mV 0) (az (ni 5 (fZ (m1 xx (mV 5)) [none,none] (gT 2 (gsCons (gN 0) (gsCons (gN 1) gsNil))) rF (nY (az (m2 bU (mV 1) (mC (.int 1))) (az (m2 bU (mV 0) (mC (.int 1))) bc))))) bc))) (gN 8))
   (fu (nY (az (m1 tM (lG 7)) (az (bC jq (az (mV 0) (az (mV 8) bc))) bc)))))))))
def iy:Sn:=
 (aY (cN (bC jq (az (mV 0) (az (m2 rE (mV 1) (mV 2)) bc))) (gN 3))
   (aY (iG (m1 cW (m2 JD (m1 jF (mVL 3)) (mC (.int 0))))
    vL
    d8)
   nG))
def iz:List PV->Option (Res PV)
 |[a0,a1,a2]=>fin (iy (startR [a0,a1,a2] 6))
 |_=>none
def oO:Sn:=
 (fu (uv (bC jY (az (mV 0) bc)) (m2 Q9 (mV 0) (mC (.int 0)))))
def lq:List PV->Option (Res PV)
 |[a0]=>fin (oO (startR [a0] 0))
 |_=>none
def Kq:Sn:=
 (fu (mC (.bl false)))
def Kr:Sn:=
 (fu (mC (.bl false)))
def zK:Sn:=
 (fu (bC tV (az (mV 0) (az (m2 bU (mV 1) (mC (.int 2))) bc))))
def zL:Sn:=
 (fu (uv (m2 m6 (m2 bU (mV 1) (mC (.int 0))) (mC (.str "print"))) (bC lq (az (m2 bU (mV 1) (mC (.int 2))) bc))))
def rT:Sn:=
 (aY (iG (m1 cW (m2 m6 (m2 bU (mV 1) (mC (.int 0))) (mC (.str "cut"))))
    zK
    d8)
   zL)
def rW:Sn:=
 (aY (iG (mOr (Bp (m1 cW (m2 Bv (m2 bU (mV 1) (mC (.int 0))) (mC (.ty "str"))))) (Bp (m1 cW (bC lq (az (m2 bU (mV 1) (mC (.int 1))) bc)))))
    Kr
    d8)
   rT)
def pY:Sn:=
 (aY (iG (mOr (Bp (m1 cW (m2 Bv (mVL 1) (mC (.ty "tuple"))))) (m1 cW (m2 wL (m1 jF (mVL 1)) (mC (.int 3)))))
    Kq
    d8)
   rW)
def tW:List PV->Option (Res PV)
 |[a0,a1]=>fin (pY (startR [a0,a1] 0))
 |_=>none
def Dt:Sn:=
 (fu (mC (.bl false)))
def rY:Sn:=
 (fu (Wi (m2 m6 (m1 jF (mVL 0)) (mC (.int 0))) (m2 JD (mV 1) (m2 bU (m2 bU (mV 0) (m1 O4 (mC (.int 1)))) (mC (.int 0))))))
def mK:Sn:=
 (aY (iG (Q5 (m1 cW (m2 Br (mVL 2) (mC .non))) (m1 cW (m2 Q9 (mV 1) (mV 2))))
    Dt
    d8)
   rY)
def mL:List PV->Option (Res PV)
 |[a0,a1,a2]=>fin (mK (startR [a0,a1,a2] 0))
 |_=>none
def xR:Sn:=
 BJ
def oR:Sn:=
 (kO 3 (m2 rE (mV 7) (m1 O6 (bC oN (az (mV 0) (az (m2 bU (mV 6) (mC (.int 2))) bc))))) (m2 bU (mV 6) (mC (.int 1))))
def oU:Sn:=
 (zX 4 (nY (az (m2 bU (mV 6) (mC (.int 2))) (az (mV 7) bc))))
def xT:Sn:=
 BJ
def oV:Sn:=
 (iG (m1 cW (Hg mL (az (mVL 4) (az (m2 bU (mV 6) (mC (.int 2))) (az (mVL 2) bc)))))
      oU
      xT)
def oW:Sn:=
 (aY (cN (yE (cg 3) (m2 bU (mV 6) (mC (.int 1))) (bC pP (az (mV 0) bc))) (gN 7))
    (iG (m1 cW (m2 m6 (m2 bU (mV 6) (mC (.int 0))) (mC (.str "cut"))))
     oR
     oV))
def jP:Sn:=
 (aY (iG (Bp (m1 cW (bC tW (az (mV 0) (az (mV 6) bc)))))
     xR
     d8)
    oW)
def oX:Sn:=
 (lE 4)
def jj:Sn:=
 (aY (gD 3 uy)
   (aY (gD 4 (u6 bc))
   (aY (ph (m1 yC (az (mV 1) bc)) (gT 2 (gsCons (gN 5) (gsCons (gN 6) gsNil)))
    jP)
   oX)))
def jk:List PV->Option (Res PV)
 |[a0,a1,a2]=>pH (jj (startR [a0,a1,a2] 5))
 |_=>none
def qz:Sn:=
 (uw (bC jk (az (mV 0) (az (mV 1) (az (mC .non) bc)))))
def qC:List PV->Option (Res PV)
 |[a0,a1]=>pH (qz (startR [a0,a1] 0))
 |_=>none
def lX:Sn:=
 (kO 1 (mV 2) (mV 4))
def lY:Sn:=
 (ph (m1 lO (mV 3)) (gN 4)
     lX)
def lZ:Sn:=
 (lE 1)
def gm:Sn:=
 (aY (gD 1 uy)
   (aY (ph (m1 yC (az (m2 bU (bC cV (az (mV 0) bc)) (mC (.int 0))) bc)) (gT 2 (gsCons (gN 2) (gsCons (gN 3) gsNil)))
    lY)
   lZ))
def eF:List PV->Option (Res PV)
 |[a0]=>pH (gm (startR [a0] 4))
 |_=>none
def zM:Sn:=
 (aY (cN (m2 gG (cg 2) (mV 5)) (gN 7))
    (aY (cN (m2 rE (yE (cg 3) (mV 7) (bC pP (az (mV 0) bc))) (m1 O6 (mV 6))) (gN 8))
    (aY (U3 4 (fZ (m1 lO (m2 bU (bC iz (az (mV 0) (az (mV 8) (az (mV 6) bc)))) (mC (.int 0)))) [none,some 7] (gN 0) rF (nY (az (mC (.str "cut")) (az (mV 1) (az (mV 0) bc))))))
    (aY (zX 4 (nY (az (mC (.str "print")) (az (mV 7) (az (mV 5) bc)))))
    (kO 3 (mV 6) (mV 7))))))
def zN:Sn:=
 (lE 4)
def tX:Sn:=
 (aY (cN (bC eF (az (mV 1) bc)) (gN 2))
   (aY (gD 3 uy)
   (aY (gD 4 (u6 bc))
   (aY (ph (m1 yC (az (mV 1) bc)) (gT 2 (gsCons (gN 5) (gsCons (gN 6) gsNil)))
    zM)
   zN))))
def iB:List PV->Option (Res PV)
 |[a0,a1]=>pH (tX (startR [a0,a1] 7))
 |_=>none
def uM:Sn:=
 (fu (m2 bU (mV 0) (mV 1)))
def uN:Sn:=
 (cN (m2 eQ (mV 2) (m2 iC (m2 bU (mV 0) (m2 iC (m2 jw (mV 1) (mC (.int 7))) (m1 jF (mVL 0)))) (mC (.int 2147483629)))) (gN 2))
def pB:Sn:=
 (fu (m2 iC (m2 jw (mV 2) (mV 2)) (mC (.int 2147483629))))
def uO:Sn:=
 (aY (cN (m2 eQ (m2 jw (mV 1) (mV 1)) (mC (.int 7919))) (gN 2))
   (aY (iG (m1 cW (m2 JD (m1 jF (mVL 0)) (mC (.int 0))))
    uN
    d8)
   pB))
def rZ:Sn:=
 (aY (iG (m1 cW (m2 En (mV 1) (m1 jF (mVL 0))))
    uM
    d8)
   uO)
def dJ:List PV->Option (Res PV)
 |[a0,a1]=>fin (rZ (startR [a0,a1] 1))
 |_=>none
def sr:Sn:=
 (fu (m2 rE (m2 JC (mV 0) (m2 jw (mC (.int 31)) (mV 1))) (mC (.int 2147483647))))
def su:Sn:=
 (aY (cN (m2 iC (m2 jw (m2 eQ (m2 eQ (m2 eQ (m2 iC (mV 0) (mC (.int 2147483629))) (m2 jw (m2 jw (mC (.int 7919)) (mV 1)) (mV 1))) (mV 1)) (mC (.int 13))) (mC (.int 48271))) (mC (.int 2147483587))) (gN 2))
   (aY (cN (m2 iC (m2 jw (mV 2) (mV 2)) (mC (.int 2147483629))) (gN 2))
   (fu (m2 iC (m2 jw (m2 eQ (mV 2) (mV 1)) (mC (.int 69621))) (mC (.int 2147483563))))))
def qD:Sn:=
 (aY (iG (m1 cW (m2 Q9 (mV 0) (m2 Ox (mC (.int 10)) (mC (.int 18)))))
    sr
    d8)
   su)
def bJ:List PV->Option (Res PV)
 |[a0,a1]=>fin (qD (startR [a0,a1] 1))
 |_=>none
def uP:Sn:=
 (fu (nY (az (m2 eQ (mC (.int 1)) (m2 iC (mV 1) (mC (.int 8)))) (az (m2 eQ (mC (.int 1)) (m2 iC (m2 Bq (mV 1) (mC (.int 8))) (mC (.int 8)))) bc))))
def uQ:Sn:=
 (fu (nY (az (m2 eQ (mC (.int 1)) (m2 iC (mV 1) (mC (.int 6)))) (az (m2 eQ (mC (.int 1)) (m2 iC (m2 Bq (mV 1) (mC (.int 6))) (mC (.int 6)))) bc))))
def oY:Sn:=
 (aY (cN (bC bJ (az (mV 0) (az (mC (.int 3)) bc))) (gN 1))
   (aY (iG (m1 cW (m2 m6 (m2 iC (bC bJ (az (mV 0) (az (mC (.int 4)) bc))) (mC (.int 8))) (mC (.int 3))))
    uP
    d8)
   uQ))
def lu:List PV->Option (Res PV)
 |[a0]=>fin (oY (startR [a0] 1))
 |_=>none
def xU:Sn:=
 (cN (m2 eQ (m2 jw (mV 4) (mC (.int 2147483587))) (bC bJ (az (mV 1) (az (m2 eQ (m2 jw (mC (.int 30)) (mV 2)) (mV 5)) bc)))) (gN 4))
def xV:Sn:=
 (fu (m2 zu (m2 zx (mC (.int 1)) (mV 3)) (mC (.int 1))))
def xW:Sn:=
 (fu (mC (.int 0)))
def xX:Sn:=
 (fu (mV 4))
def xY:Sn:=
 (aY (iG (m1 cW (m2 m6 (mVL 6) (mC (.int 2))))
    xW
    d8)
   xX)
def xZ:Sn:=
 (aY (cN (m2 iC (mV 4) (m2 zx (mC (.int 1)) (mV 3))) (gN 4))
   (aY (cN (m2 iC (bC bJ (az (mV 1) (az (m2 eQ (m2 jw (mC (.int 30)) (mV 2)) (mC (.int 29))) bc))) (mC (.int 8))) (gN 6))
   (aY (iG (m1 cW (m2 m6 (mVL 6) (mC (.int 1))))
    xV
    d8)
   xY)))
def qF:Sn:=
 (aY (cN (m2 jw (m2 bU (mV 0) (mC (.int 0))) (m2 bU (mV 0) (mC (.int 1)))) (gN 3))
   (aY (cN (mC (.int 0)) (gN 4))
   (aY (ph (m1 m7 (az (m2 eQ (mC (.int 1)) (m2 Bq (mV 3) (mC (.int 30)))) bc)) (gN 5)
    xU)
   xZ)))
def nH:List PV->Option (Res PV)
 |[a0,a1,a2]=>fin (qF (startR [a0,a1,a2] 4))
 |_=>none
def qO:Sn:=
 (cN (m2 rE (mV 6) (m2 FN (lG 3) (m2 iC (bC bJ (az (mV 5) (az (mC (.int 302)) bc))) (mV 4)))) (gN 6))
def qP:Sn:=
 (cN (m2 FN (lG 3) (m2 iC (bC bJ (az (mV 5) (az (mC (.int 302)) bc))) (mV 4))) (gN 6))
def lJ:Sn:=
 (zX 3 (mV 6))
def lK:Sn:=
 (aY (iG (Q5 (m1 cW (m2 JD (mV 4) (mC (.int 0)))) (m1 cW (m2 m6 (mVL 7) (mC (.int 2)))))
     qP
     d8)
    lJ)
def qQ:Sn:=
 (aY (cN (bC dJ (az (mV 0) (az (m2 eQ (mC (.int 3)) (mV 4)) bc))) (gN 5))
    (aY (cN (bC nH (az (mV 1) (az (mV 5) (az (mV 4) bc)))) (gN 6))
    (aY (cN (m2 iC (bC bJ (az (mV 5) (az (mC (.int 301)) bc))) (mC (.int 4))) (gN 7))
    (aY (iG (Q5 (m1 cW (m2 JD (mV 4) (mC (.int 0)))) (m1 cW (m2 En (mV 7) (mC (.int 2)))))
     qO
     d8)
    lK))))
def qR:Sn:=
 (lE 3)
def j8:Sn:=
 (aY (gD 3 (u6 bc))
   (aY (ph (m1 m7 (az (mV 2) bc)) (gN 4)
    qQ)
   qR))
def jb:List PV->Option (Res PV)
 |[a0,a1,a2]=>pH (j8 (startR [a0,a1,a2] 5))
 |_=>none
def WY:Sn:=
 (fu (mC (.bl false)))
def W0:Sn:=
 (fu (mC (.bl false)))
def PQ:Sn:=
 (zX 6 (mV 7))
def Qa:Sn:=
 (iG (m1 cW (m2 mD (mVL 7) (mVL 6)))
     PQ
     d8)
def W2:Sn:=
 (fu (mC (.bl false)))
def W3:Sn:=
 (fu (mC (.bl false)))
def Qc:Sn:=
 (kO 8 (m2 bU (mV 2) (mV 9)) (m2 bU (mV 5) (mV 9)))
def Qd:Sn:=
 (aY (cN (yE (cg 8) (m2 bU (mV 5) (mV 9)) (m2 zu (m2 zx (mC (.int 1)) (m2 jw (m2 bU (mV 1) (mC (.int 0))) (m2 bU (mV 1) (mC (.int 1))))) (mC (.int 1)))) (gN 10))
    (aY (iG (m1 cW (m2 wL (m2 rE (m2 bU (mV 2) (mV 9)) (mV 10)) (m2 bU (mV 2) (mV 9))))
     W3
     d8)
    Qc))
def Qe:Sn:=
 (aY (cN (m1 yD (lG 4)) (gN 11))
   (aY (zX 4 (mC .non))
   (fu (uv (m2 m6 (bC iB (az (mV 1) (az (mV 2) bc))) (mVL 11)) (m2 m6 (bC iB (az (mV 1) (az (u6 bc) bc))) (u6 bc))))))
def Ks:Sn:=
 (aY (gD 8 uy)
   (aY (ph (m1 m7 (az (m1 jF (mVL 2)) bc)) (gN 9)
    Qd)
   Qe))
def Ku:Sn:=
 (aY (iG (m1 cW (m2 wL (mVL 6) (m1 (Ub .lst) (m1 jF (m2 bU (bC cV (az (mV 2) bc)) (mC (.int 0)))))))
    W2
    d8)
   Ks)
def Kv:Sn:=
 (aY (cN (fZ (lG 4) [none] (gN 0) (m1 cW (m2 m6 (m2 bU (mV 0) (mC (.int 0))) (mC (.str "print")))) (m2 bU (mV 0) (mC (.int 1)))) (gN 5))
   (aY (gD 6 (u6 bc))
   (aY (ph (m1 lO (mV 5)) (gN 7)
    Qa)
   Ku)))
def Kw:Sn:=
 (aY (iG (m1 cW (m2 wL (Hy qC (az (mVL 1) (az (mVL 4) bc))) (fZ (m1 m7 (az (m1 jF (mVL 2)) bc)) [none,some 2] (gN 0) rF (nY (az (mV 0) (az (m2 bU (mV 1) (mV 0)) bc))))))
    W0
    d8)
   Kv)
def Qf:Sn:=
 (aY (cN (bC lu (az (bC dJ (az (mV 0) (az (mC (.int 1)) bc))) bc)) (gN 1))
   (aY (cN (bC jb (az (mV 0) (az (mV 1) (az (m2 eQ (mC (.int 1)) (m2 iC (bC bJ (az (bC dJ (az (mV 0) (az (mC (.int 2)) bc))) (az (mC (.int 1)) bc))) (mC (.int 8)))) bc)))) (gN 2))
   (aY (cN (m1 yD (lG 2)) (gN 3))
   (aY (gD 4 (bC iB (az (mV 1) (az (mV 3) bc))))
   (aY (iG (mOr (Bp (m1 cW (m2 Bv (mVL 4) (mC (.ty "list"))))) (mOr (m1 cW (m2 wL (mVL 3) (mVL 2))) (m1 cW (m2 wL (bC iB (az (mV 1) (az (mV 3) bc))) (mVL 4)))))
    WY
    d8)
   Kw)))))
def Gm:List PV->Option (Res PV)
 |[a0]=>fin (Qf (startR [a0] 11))
 |_=>none
local macro_rules|`(tactic| walk_at "rd")=>do
 let ids:=("onNx_nx onNx_rt onNx_ro onNx_rd onNx_bk onNx_ct tv_some to_nx to_rt to_ro to_rd to_bk to_ct tv_ite to_ite turn_nx turn_ct turn_bk turn_rt turn_ro turn_rd tv_bnd to_bnd to_seq tv_m2 tv_m1 tv_var tv_lend tv_c tv_view tv_viewN tv_asLst tv_nil tv_cons tv_tup tv_lst tv_call tv_callL tv_mIf tv_mAnd tv_mOr tv_mNot tv_and tv_or tv_chain tv_comp tv_compN tv_compC tv_yes to_next to_cont to_ret to_retO to_hold to_frzD to_retT tv_ownD tv_callT holdQ_nx holdQ_rt holdQ_ro tv_holdE tv_dkeys tv_ditems tv_sort tv_sortD to_io2 to_setO to_setD to_retDp tv_deep tv_still tv_fz to_asgN to_asg to_if to_for to_retOw to_app tv_neg tv_newD tv_viewD tv_viewDN tv_dget1 tv_dget2 tv_opDGet tv_opDIn tv_opDNotIn tv_dictP tv_newT tv_ofR tv_inv to_dput dF_int dF_str dF_tup isD_dk isD_dt is_dk_int is_dk_str finIO_nx to_never tv_sub tv_and' tv_or' tv_gt tv_ge tv_div tv_mod tv_pow tv_shl tv_shr tv_add tv_addS tv_addT tv_mul tv_mulS tv_lt tv_ltS tv_le tv_leS tv_eqI tv_eqS tv_neI tv_neS tv_eq tv_ne tv_notin tv_notN tv_ixL tv_ixT tv_ixV tv_ixS tv_lenS tv_lenL tv_lenT tv_is tv_asBl tv_not tv_list tv_cat tv_asSeqL tv_asSeqT tv_asSeqS tv_rng1 tv_rng2 tv_enum tv_zip tv_pn tv_asInt tv_slL tv_slT tv_opSlT tv_all startR fin_nx fin_rt finO_ro finT_rd gN gT gsCons gsNil szP cellP List.map_cons List.map_nil List.replicate_succ List.replicate_zero List.cons_append List.nil_append List.append_nil List.getElem?_cons_zero List.getElem?_cons_succ List.set_cons_zero List.set_cons_succ List.length_cons List.length_nil Nat.zero_le true_and and_true Option.some.injEq Sl.sh.injEq Sl.ow.injEq Sl.dp.injEq Res.ok.injEq PV.int.injEq PV.str.injEq PV.bl.injEq PV.lst.injEq PV.tup.injEq exists_eq_left' exists_eq_left exists_eq and_assoc exists_and_left if_true if_false not_true_eq_false not_false_eq_true Bool.false_eq_true Bool.not_true Bool.not_false decide_eq_true_eq Bool.not_eq_true' decide_eq_false_iff_not reduceCtorEq is_non_int is_non_bool is_non_str is_non_list is_non_tuple is_non_dict is_bl_int is_bl_bool is_bl_str is_bl_list is_bl_tuple is_bl_dict is_int_int is_int_bool is_int_str is_int_list is_int_tuple is_int_dict is_str_int is_str_bool is_str_str is_str_list is_str_tuple is_str_dict is_tup_int is_tup_bool is_tup_str is_tup_list is_tup_tuple is_tup_dict is_lst_int is_lst_bool is_lst_str is_lst_list is_lst_tuple is_lst_dict Int.reduceAdd Int.reduceSub Int.reduceMul Int.reduceNeg Int.reduceToNat atI_0 atI_1 atI_2 atI_3 snocI snocS snocC eqF_int eqF_str eqF_bl frR shOnly".splitOn " ").toArray.map λs=>Lean.mkIdent s.toName
 `(tactic| simp(maxSteps:=2000000) only[$[$ids:ident],*])
structure Sz(w h:Int):Prop where
 w0:1<=w
 w1:w<=24
 h0:1<=h
 h1:h<=24
theorem Sz.mul{w h:Int}(s:Sz w h):1<=w*h/\w*h<=576:=by
 obtain⟨a,b,c,d⟩:=s;have e1:1*1<=w*h:=ZcQ a c (by decide) (by lia)
 have e2:w*h<=24*24:=ZcQ b d (by lia) (by decide)
 lia
theorem Sz.at{w h c r:Int}(_:Sz w h)(c0:0<=c)(c1:c<w)(r0:0<=r)(r1:r<h):0<=r*w+c/\r*w+c<w*h:=by
 have e1:0<=r*w:=Zc5 r0 (by lia)
 have e2:(r+1)*w<=h*w:=Int.mul_le_mul_of_nonneg_right (by lia) (by lia)
 rw[Int.add_mul,Int.one_mul] at e2;rw[Int.mul_comm w h];lia
theorem Sz.nat{w h:Int}(s:Sz w h):w.toNat*h.toNat=(w*h).toNat/\w.toNat*h.toNat<=576:=by
 have hm:=s.mul;obtain⟨a,b,c,d⟩:=s;obtain⟨x,rfl⟩:=Za2 (show 0<=w by omega)
 obtain⟨y,rfl⟩:=Za2 (show 0<=h by omega)
 have e:(x:Int)*(y:Int)=((x*y:Nat):Int):=by simp
 rw[e] at hm ⊢;simp only[ZaD];have h2:((x*y:Nat):Int)<=((576:Nat):Int):=hm.2;exact⟨trivial,Int.ofNat_le.mp h2⟩
structure Cell(w h c r:Int):Prop where
 c0:0<=c
 c1:c<w
 r0:0<=r
 r1:r<h
theorem Cell.inR{w h c r:Int}(z:Cell w h c r):Mth.InR w.toNat h.toNat (c,r):=⟨z.c0,by have:=z.c1;show c<(w.toNat:Int);omega,z.r0,by have:=z.r1;show r<(h.toNat:Int);omega⟩
theorem Cell.of{w h:Int}{c:Int×Int}(z:Mth.InR w.toNat h.toNat c):Cell w h c.1 c.2:=⟨z.c0,by have:=z.c1;have:=z.c0;lia,z.r0,by have:=z.r1;have:=z.r0;lia⟩
theorem Cell.pl{w h c r:Int}(z:Cell w h c r):(r*w+c).toNat=Mth.pl w.toNat (c,r)/\0<=r*w+c:=by
 obtain⟨c0,c1,r0,r1⟩:=z;obtain⟨a,rfl⟩:=Za2 c0;obtain⟨b,rfl⟩:=Za2 r0;obtain⟨v,rfl⟩:=Za2 (show 0<=w by omega)
 unfold Mth.pl;simp only[ZaD];have e:(b:Int)*(v:Int)+(a:Int)=((b*v+a:Nat):Int):=by simp
 rw[e,ZaD];exact⟨rfl,ZaU _⟩
theorem Np{w:Int}(hw:1<=w)(i:Nat):Mth.cellOf w.toNat i=((0+(i:Int))%w,(0+(i:Int))/w):=by
 obtain⟨v,rfl⟩:=Za2 (show 0<=w by omega)
 unfold Mth.cellOf;simp
theorem Ru(a b:Nat):Builtin.bitOr (a:Int) (b:Int)=((a ||| b:Nat):Int):=by
 have n1:∀ x:Nat,¬0<=Builtin.bitNot (x:Int):=λx=>by unfold Builtin.bitNot;omega
 unfold Builtin.bitOr;rw[bitAnd_nn (n1 a) (n1 b),bitNot_bitNot,bitNot_bitNot,bitNot_bitNot,ZaD,ZaD]
theorem W4(n p:Nat):decide (Builtin.bitAnd ((n:Int)/2^p) 1=1)=n.testBit p:=by
 have e:(n:Int)/2^p=((n/2^p:Nat):Int):=by simp
 rw[e,bitAnd_pp (ZaU _) (by decide),ZaD,show(1:Int).toNat=1 from rfl,Mth.Wd]
 cases n.testBit p<;>rfl
theorem HJ{lo:Int}{n i:Nat}{x:PV}(h:(qi lo n)[i]?=some x):i<n/\x=.int (lo+(i:Int)):=by
 have hi:i<n:=by simpa[qi] using cL h
 unfold qi at h;rw[Zad,Za4 hi] at h;exact⟨hi,(Zaf h).symm⟩
theorem W5{lo:Int}{n:Nat}{x:PV}(h:x∈qi lo n):∃ i:Nat,i<n/\x=.int (lo+(i:Int)):=by
 unfold qi at h;obtain⟨i,hi,e⟩:=Zag.mp h;exact⟨i,Zav.mp hi,e.symm⟩
theorem take_snoc{α:Type}{l:List α}{i:Nat}{x:α}(h:l[i]?=some x):l.take (i+1)=l.take i++[x]:=by
 rw[List.take_succ,h];rfl
theorem pL{w h c r:Int}(sz:Sz w h)(cl:Cell w h c r):jZ [.tup [.int w,.int h],.tup [.int c,.int r]]=some (.ok (.int (r*w+c))):=by
 refine fX ?_;unfold vH;walk_at "rd"
 have:=cl.r0;have:=cl.r1;have:=sz.h1;exact .inl ⟨by lia,by lia⟩
theorem U6{w h c r:Int}(sz:Sz w h)(cl:Cell w h c r)(n:Nat):j4 [.tup [.int w,.int h],.int n,.tup [.int c,.int r]]=some (.ok (.bl (n.testBit (Mth.pl w.toNat (c,r))))):=by
 refine fX ?_;unfold vI;walk_at "rd"
 obtain⟨e1,e2⟩:=cl.pl;rw[pL sz cl];walk_at "rd"
 rw[e1,W4];exact⟨e2,rfl⟩
theorem HN{w h:Int}(sz:Sz w h):oF [.tup [.int w,.int h]]=some (.ok (.lst ((Mth.pick w.toNat (w.toNat*h.toNat) λ_=>true).map cellP))):=by
 refine qu ?_;unfold rO;walk_at "rd"
 have hm:=sz.mul;have hn:=sz.nat;have w0:=sz.w0;have w1:=sz.w1;refine⟨.inl ⟨by lia,by lia⟩,by lia,by lia,by rw[jx];exact ZaB (bI (by lia)),?_⟩
 rw[aax (λx=>match x with|.int i=>cellP (i%w,i/w)|_=>.non)]
 ·walk_at "rd"
  rw[<-hn.1];unfold qi Mth.pick;rw[ZaG,ZaG,Zbz.mpr λ_ _=>rfl];refine Za6 λi _=>?_;show _=cellP (Mth.cellOf w.toNat i)
  rw[Np w0];rfl
 ·intro x hx;obtain⟨i,hi,rfl⟩:=W5 hx;walk_at "rd"
  exact⟨by lia,by lia,by lia,by decide⟩
theorem Gn{w h:Int}(sz:Sz w h)(ps:List (Int×Int))(hc:∀ c∈ps,Cell w h c.1 c.2):pQ [.tup [.int w,.int h],.lst (ps.map cellP)]=some (.ok (.int (Mth.zV w.toNat ps))):=by
 refine fX ?_;unfold Di;walk_at "rd"
 refine dU (λi Z=>∃ v,Z=[some (.sh (.tup [.int w,.int h])),some (.sh (.lst (ps.map cellP))),some (.sh (.int (Mth.zV w.toNat (ps.take i)))),v]) ⟨none,rfl⟩ ?_ ?_
 ·rintro i x Z hx ⟨v,rfl⟩;rw[Zad] at hx;cases hd:ps[i]? with
  |none=>rw[hd] at hx;cases hx
  |some d=>
   rw[hd] at hx;cases hx;have cl:=hc d (Zah hd);obtain⟨e1,e2⟩:=cl.pl;have hm:=sz.mul;have ha:=sz.at cl.c0 cl.c1 cl.r0 cl.r1;unfold Dg;walk_at "rd"
   rw[pL sz cl];walk_at "rd"
   have e3:(1:Int)*2^Mth.pl w.toNat (d.1,d.2)=((2^Mth.pl w.toNat d:Nat):Int):=by simp
   rw[e1,e3,Ru,take_snoc hd,Mth.QV];exact⟨by lia,by lia,by decide,_,rfl⟩
 ·rintro Z ⟨v,rfl⟩;unfold Dh;walk_at "rd"
  rw[List.take_of_length_le (by simp)]
theorem sy{w h:Int}(sz:Sz w h)(n:Nat):jq [.tup [.int w,.int h],.int n]=some (.ok (.lst ((Mth.pick w.toNat (w.toNat*h.toNat) λi=>n.testBit i).map cellP))):=by
 refine qu ?_;unfold vJ;walk_at "rd"
 rw[HN sz];walk_at "rd"
 have hn:=sz.nat;refine⟨by rw[Zab];exact ZaI (Mth.pD _ _ _) (ZaB (bI (by lia))),?_⟩
 rw[aay (λx=>match x with|.tup [.int c,.int r]=>n.testBit (Mth.pl w.toNat (c,r))|_=>false) id]
 ·walk_at "rd"
  rw[List.map_id];unfold Mth.pick;rw[Zbz.mpr λ_ _=>rfl,ZaG,List.filter_map,ZaG];congr 1
  refine ZcU λi hi=>?_;show n.testBit (Mth.pl w.toNat ((Mth.cellOf w.toNat i).1,(Mth.cellOf w.toNat i).2))=_
  rw[show Mth.pl w.toNat ((Mth.cellOf w.toNat i).1,(Mth.cellOf w.toNat i).2)=i from Mth.sX _ _]
 ·intro x hx;obtain⟨c,hc,rfl⟩:=Zag.mp hx;unfold Mth.pick at hc;obtain⟨i,hi,rfl⟩:=Zag.mp hc;have hi:i<w.toNat*h.toNat:=by simpa using hi
  have cl:=Cell.of (Mth.yx hi);walk_at "rd"
  rw[U6 sz cl];walk_at "rd"
 ·intro x hx _;walk_at "rd"
  rfl
theorem Du{f:PV->PV->Option Bool}:∀ {l:List PV},(∀ x∈l,f x x=some true)->eqL f l l=some true
 |[],_=>rfl
 |x::xs,h=>by rw[eqL,h x Zaw,Du λy hy=>h y (Zaq _ hy)];rfl
theorem yc{n:Nat}{l:List PV}(h:∀ x∈l,eqF n x x=some true):eqF (n+1) (.tup l) (.tup l)=some true:=by
 exact Du h
theorem Dv{n:Nat}{l:List PV}(h:∀ x∈l,eqF n x x=some true):eqF (n+1) (.lst l) (.lst l)=some true:=by
 exact(Zan rfl).trans (Du h)
theorem Dw(n:Nat)(z:Str):eqF n (.str z) (.str z)=some true:=by rw[eqF_str,ZaF rfl]
theorem jc(n:Nat)(z:Int):eqF n (.int z) (.int z)=some true:=by rw[eqF_int,ZaF rfl]
theorem tY{α:Type}{j:Nat}{el:Fn PV}{ρb:Rho}(g f:α->PV):∀ (l:List α),(∀ a∈l,Tv (el (ρb.set j (some (.sh (g a))))) λp=>p=f a)->fD (gN j) rF el ρb (l.map g)=some (.ok (l.map f))
 |[],_=>rfl
 |a::l,h=>by
  have e1:=eV (h a Zaw);have ih:=tY g f l λb hb=>h b (Zaq _ hb);rw[Zap,fD];simp only[gN,rF,bnd,Zbw,e1,ih,Zap]
theorem Qg{α:Type}{j:Nat}{tst:Fn Bool}{el:Fn PV}{ρb:Rho}(g f:α->PV)(t:α->Bool):∀ (l:List α),(∀ a∈l,Tv (tst (ρb.set j (some (.sh (g a))))) λb=>b=t a)->(∀ a∈l,t a=true->Tv (el (ρb.set j (some (.sh (g a))))) λp=>p=f a)->fD (gN j) tst el ρb (l.map g)=some (.ok ((l.filter t).map f))
 |[],_,_=>rfl
 |a::l,h,h2=>by
  have e0:=eV (h a Zaw);have ih:=Qg g f t l (λb hb=>h b (Zaq _ hb)) λb hb=>h2 b (Zaq _ hb);rw[Zap,fD];simp only[gN,bnd,e0,ih];cases ht:t a with
  |true=>
   have e1:=eV (h2 a Zaw ht);simp only[Zbw,e1,ZbC,ht,Zap]
  |false=>simp only[Zbs,Zba,ZbC,ht]
def mO(row:Bool):Str:=if row then Str.ofString "row" else Str.ofString "column"
def qT(row:Bool)(l f t:Int):PV:=.tup [.str (mO row),.int l,.int f,.int t]
structure On(w h:Int)(row:Bool)(l f t:Int):Prop where
 l0:0<=l
 l1:l<if row then h else w
 f0:0<=f
 ft:f<=t
 t1:t<if row then w else h
def cA(row:Bool)(l:Int)(p:Int):Int×Int:=if row then(p,l) else(l,p)
def eG(row:Bool)(l f t:Int):List (Int×Int):=(List.range (t+1-f).toNat).map λ(i:Nat)=>cA row l (f+(i:Int))
theorem W6(row:Bool):decide (mO row=Str.ofString "row")=row:=by cases row<;>decide +kernel
theorem On.cell{w h:Int}{row:Bool}{l f t:Int}(o:On w h row l f t){c:Int×Int}(hc:c∈eG row l f t):Cell w h c.1 c.2:=by
 obtain⟨i,hi,rfl⟩:=Zag.mp hc;have hi:=Zav.mp hi;obtain⟨l0,l1,f0,ft,t1⟩:=o;unfold cA;cases row
 ·exact⟨l0,l1,by show 0<=f+(i:Int);omega,by show f+(i:Int)<h;have t1:t<h:=t1;omega⟩
 ·exact⟨by show 0<=f+(i:Int);omega,by show f+(i:Int)<w;have t1:t<w:=t1;omega,l0,l1⟩
theorem Qh(i:Int):jY [.int i]=some (.ok (.bl true)):=by
 refine fX (x:=qw (startR [.int i] 0)) ?_;unfold qw;walk_at "rd"
theorem Nq{row:Bool}{l f t:Int}(h:f<=t):oJ [qT row l f t]=some (.ok (.bl true)):=by
 refine fX (x:=oH (startR [qT row l f t] 0)) ?_;unfold oH qT;walk_at "rd"
 unfold uJ;walk_at "rd"
 refine⟨by decide,_,HF (g:=PV.str) (λa b=>eqF_str 31 a b) (mO row) [Str.ofString "row",Str.ofString "column"],?_⟩
 have:decide (mO row∈[Str.ofString "row",Str.ofString "column"])=true:=by cases row<;>decide +kernel
 rw[this];walk_at "rd"
 unfold uI;walk_at "rd"
 rw[show Bt [PV.str (mO row),PV.int l,PV.int f,PV.int t] (some 1) none=[l,f,t].map PV.int from rfl];refine⟨by decide,ZaB (bI (show 3<=1000 by decide)),?_⟩
 rw[tY PV.int (λ_=>.bl true) _ λi _=>?_]
 ·walk_at "rd"
  refine⟨[true,true,true],rfl,?_⟩;rw[Zan (by rfl)]
  exact h
 ·walk_at "rd"
  rw[Qh];walk_at "rd"
theorem Ky(w h:Int)(row:Bool):j5 [.tup [.int w,.int h],.str (mO row)]=some (.ok (.int (if row then h else w))):=by
 refine fX (x:=qy (startR [.tup [.int w,.int h],.str (mO row)] 0)) ?_;unfold qy;walk_at "rd"
 cases row
 ·rw[Zam (by decide +kernel)];rfl
 ·rw[Zan (by rfl)];rfl
theorem Gp(w h:Int)(row:Bool):jA [.tup [.int w,.int h],.str (mO row)]=some (.ok (.int (if row then w else h))):=by
 refine fX (x:=oK (startR [.tup [.int w,.int h],.str (mO row)] 0)) ?_;unfold oK;walk_at "rd"
 cases row
 ·rw[Zam (by decide +kernel)];rfl
 ·rw[Zan (by rfl)];rfl
theorem W7{w h:Int}{row:Bool}{l f t:Int}(hft:f<=t):tV [.tup [.int w,.int h],qT row l f t]=some (.ok (.bl (decide (0<=l/\(l<if row then h else w)/\0<=f/\t<if row then w else h)))):=by
 refine fX (x:=tU (startR [.tup [.int w,.int h],qT row l f t] 0)) ?_;unfold tU;walk_at "rd"
 rw[Nq hft];walk_at "rd"
 unfold zJ qT;walk_at "rd"
 rw[Ky,Gp];walk_at "rd"
 generalize (if row then h else w)=L
 generalize (if row then w else h)=P
 refine yw (λh1=>yw (λh2=>yw (λh3=>?_) λh3=>?_) λh2=>?_) λh1=>?_
 ·rw[decide_eq_decide];exact⟨λh=>⟨h1,h2,h3,h⟩,λh=>h.2.2.2⟩
 ·exact(ZaM λh=>h3 h.2.2.1).symm
 ·exact(ZaM λh=>h2 h.2.1).symm
 ·exact(ZaM λh=>h1 h.1).symm
theorem yM{row:Bool}{l f t:Int}(f0:0<=f)(ft:f<=t)(t1:t<=1000):di [qT row l f t]=some (.ok (.lst ((eG row l f t).map cellP))):=by
 refine qu (x:=jN (startR [qT row l f t] 0)) ?_;unfold jN qT;walk_at "rd"
 have key:qi f (t+1-f).toNat=(List.range (t+1-f).toNat).map λi=>PV.int (f+((i:Nat):Int)):=rfl;have len:((List.range (t+1-f).toNat).map λi=>PV.int (f+((i:Nat):Int))).length<=sizeLine:=by
  rw[Zab,Zay];exact ZaI (show _<=1001 by lia) (by decide)
 by_cases hr:row=true
 ·subst hr;rw[Zan (by rfl)]
  unfold pW;walk_at "rd"
  rw[key];refine⟨by lia,by lia,by lia,by lia,len,?_⟩
  rw[tY (λi=>PV.int (f+((i:Nat):Int))) (λi=>cellP (cA true l (f+((i:Nat):Int)))) _ λi _=>?_]
  ·walk_at "rd"
   unfold eG;rw[ZaG];rfl
  ·walk_at "rd"
   exact⟨by decide,rfl⟩
 ·have hr:row=false:=by simpa using hr
  subst hr;rw[Zam (by decide +kernel)]
  unfold pX;walk_at "rd"
  rw[key];refine⟨by lia,by lia,by lia,by lia,len,?_⟩
  rw[tY (λi=>PV.int (f+((i:Nat):Int))) (λi=>cellP (cA false l (f+((i:Nat):Int)))) _ λi _=>?_]
  ·walk_at "rd"
   unfold eG;rw[ZaG];rfl
  ·walk_at "rd"
   exact⟨by decide,rfl⟩
theorem HQ{w h:Int}(sz:Sz w h){row:Bool}{l f t:Int}(o:On w h row l f t):oN [.tup [.int w,.int h],qT row l f t]=some (.ok (.int (Mth.zV w.toNat (eG row l f t)))):=by
 have t24:t<=1000:=by
  have q:=o.t1;have:=sz.w1;have:=sz.h1;split at q<;>omega
 refine fX (x:=oM (startR [.tup [.int w,.int h],qT row l f t] 0)) ?_;unfold oM;walk_at "rd"
 rw[yM o.f0 o.ft t24];walk_at "rd"
 rw[Gn sz _ λc hc=>o.cell hc];walk_at "rd"
theorem bT:∀ {l k:List Nat},l.Nodup->(∀ x∈l,x∈k)->l.length<=k.length
 |[],k,_,_=>Za7 _
 |a::l,k,nd,h=>by
  have ha:a∈k:=h a Zaw;have nd':=Zbp.mp nd;have:=bT (l:=l) (k:=k.erase a) nd'.2 λx hx=>(Zcd (λe:x=a=>nd'.1 (by rw[<-e];exact hx))).mpr (h x (Zaq _ hx))
  rw[Zcp ha] at this;have:0<k.length:=List.length_pos_of_mem ha;simp only[ZaQ];lia
structure Mt(G:Nat->Nat->Prop)(m:Nat->Option Nat):Prop where
 ok:∀ {j i},m j=some i->i<j/\G i j
 inj:∀ {j k i},m j=some i->m k=some i->j=k
inductive Anc(m:Nat->Option Nat):Nat->Nat->Prop
 |one {i j} (h:m j=some i):Anc m i j
 |more {i j k} (h:m j=some k) (a:Anc m i k):Anc m i j
section
variable{G:Nat->Nat->Prop}{m:Nat->Option Nat}
theorem Anc.rel(M:Mt G m)(tr:∀ {i j k},G i j->G j k->G i k){i j:Nat}(a:Anc m i j):G i j:=by
 induction a with
 |one h=>exact(M.ok h).2
 |more h _ ih=>exact tr ih (M.ok h).2
theorem Anc.of(M:Mt G m){i j:Nat}(a:Anc m i j):∃ x,x<=j/\m x=some i:=by
 induction a with
 |one h=>exact⟨_,Zal _,h⟩
 |more h _ ih=>obtain⟨x,h1,h2⟩:=ih;exact⟨x,by have:=(M.ok h).1;omega,h2⟩
theorem Qi(M:Mt G m):∀ j,∃ r,m r=none/\(r=j\/Anc m r j):=by
 intro j;induction j using Nat.strongRecOn with
 |_ j ih=>
  cases h:m j with
  |none=>exact⟨j,h,.inl rfl⟩
  |some i=>
   obtain⟨r,h1,h2⟩:=ih i (M.ok h).1;refine⟨r,h1,.inr ?_⟩;rcases h2 with rfl|h2
   ·exact .one h
   ·exact .more h h2
theorem Gq(M:Mt G m){r:Nat}(hr:m r=none):∀ j i,i<j->(r=i\/Anc m r i)->(r=j\/Anc m r j)->Anc m i j:=by
 intro j;induction j using Nat.strongRecOn with
 |_ j ih=>
  intro i hij hi hj;have le:∀ {a b:Nat},Anc m a b->a<b:=λ{a b} h=>by
   induction h with
   |one h=>exact(M.ok h).1
   |more h _ ih=>have:=(M.ok h).1;omega
  rcases hj with rfl|hj
  ·rcases hi with rfl|hi
   ·omega
   ·have:=le hi;omega
  ·obtain⟨k,hk,hrk⟩:∃ k,m j=some k/\(r=k\/Anc m r k):=by
    cases hj with
    |one h=>exact⟨r,h,.inl rfl⟩
    |more h a=>exact⟨_,h,.inr a⟩
   have kj:=(M.ok hk).1;rcases Nat.lt_trichotomy i k with h|h|h
   ·exact .more hk (ih k kj i h hi hrk)
   ·subst h;exact .one hk
   ·obtain⟨x,h1,h2⟩:=(ih i hij k h hrk hi).of M;have:=M.inj h2 hk;omega
theorem aaR(M:Mt G m)(tr:∀ {i j k},G i j->G j k->G i k){n:Nat}{A:List Nat}(nd:A.Nodup)(lt:∀ a∈A,a<n)(ap:∀ a∈A,∀ b∈A,a<b->¬G a b) :
  A.length<=((List.range n).filter λj=>(m j).isNone).length:=by
 have le:∀ {a b:Nat},Anc m a b->a<b:=λ{a b} h=>by
  induction h with
  |one h=>exact(M.ok h).1
  |more h _ ih=>have:=(M.ok h).1;omega
 have:∃ f:Nat->Nat,∀ j,m (f j)=none/\(f j=j\/Anc m (f j) j):=⟨λj=>Classical.choose (Qi M j),λj=>Classical.choose_spec (Qi M j)⟩;obtain⟨f,hf⟩:=this;have inj:∀ a∈A,∀ b∈A,f a=f b->a=b:=λa ha b hb e=>by
  rcases Nat.lt_trichotomy a b with h|h|h
  ·exact absurd ((Gq M (hf a).1 b a h (hf a).2 (by rw[e];exact(hf b).2)).rel M tr) (ap a ha b hb h)
  ·exact h
  ·exact absurd ((Gq M (hf b).1 a b h (hf b).2 (by rw[<-e];exact(hf a).2)).rel M tr) (ap b hb a ha h)
 have nd2:(A.map f).Nodup:=by
  rw[List.Nodup,Zbd];exact nd.imp_of_mem λ{a b} ha hb hne e=>hne (inj a ha b hb e)
 have:=bT (l:=A.map f) (k:=(List.range n).filter λj=>(m j).isNone) nd2 λx hx=>by
  obtain⟨a,ha,rfl⟩:=Zag.mp hx;refine Zau.mpr ⟨Zav.mpr ?_,by rw[(hf a).1];rfl⟩
  rcases(hf a).2 with e|e
  ·rw[e];exact lt a ha
  ·exact Nat.lt_trans (le e) (lt a ha)
 simpa using this
end
def lk:List (Nat×Nat)->Nat->Option Nat
 |[],_=>none
 |p::l,k=>if p.1=k then some p.2 else lk l k
def ptN:List (Nat×Nat)->Nat->Nat->List (Nat×Nat)
 |[],k,v=>[(k,v)]
 |p::l,k,v=>if p.1=k then(k,v)::l else p::ptN l k v
theorem gn(k v j:Nat):∀ l,lk (ptN l k v) j=if j=k then some v else lk l j
 |[]=>by
  unfold ptN lk lk;by_cases h:j=k
  ·rw[Zan h,Zan h.symm]
  ·rw[Zam h,Zam (Zbj h)]
 |p::l=>by
  unfold ptN;by_cases h:p.1=k
  ·rw[Zan h];unfold lk;by_cases hj:j=k
   ·rw[Zan hj,Zan hj.symm]
   ·rw[Zam hj,Zam (Zbj hj),Zam (λe=>hj (e.symm.trans h))]
  ·rw[Zam h];unfold lk;rw[gn k v j l];by_cases hj:j=k
   ·rw[Zan hj,Zam (λe=>h (e.trans hj)),Zan hj]
   ·simp only[Zam hj]
theorem Nr(k v:Nat):∀ l,lk l k=none->ptN l k v=l++[(k,v)]
 |[],_=>rfl
 |p::l,h=>by
  unfold lk at h;split at h
  ·cases h
  ·rename_i hp;unfold ptN;rw[Zam hp,Nr k v l h];rfl
theorem mQ{k:Nat}:∀ {l},lk l k=none↔k ∉ l.map (·.1)
 |[]=>by simp[lk]
 |p::l=>by
  unfold lk;by_cases h:p.1=k
  ·simp[h]
  ·rw[Zam h,mQ];simp[Zbj h]
theorem Dy{k v:Nat}:∀ {l},lk l k=some v->(k,v)∈l
 |p::l,h=>by
  unfold lk at h;split at h
  ·rename_i hp;cases h;subst hp;exact Zaw
  ·exact Zaq _ (Dy h)
theorem zO{k v:Nat}:∀ {l:List (Nat×Nat)},(l.map (·.1)).Nodup->(k,v)∈l->lk l k=some v
 |p::l,nd,h=>by
  rw[Zap,Zbp] at nd;unfold lk;rcases ZaA.mp h with e|h
  ·subst e;rw[Zan rfl]
  ·rw[Zam λe=>nd.1 (by rw[e];exact Zag.mpr ⟨_,h,rfl⟩)];exact zO nd.2 h
theorem An(k v:Nat):∀ l,(ptN l k v).map (·.1)=if lk l k=none then l.map (·.1)++[k] else l.map (·.1)
 |[]=>rfl
 |p::l=>by
  unfold ptN lk;by_cases h:p.1=k
  ·rw[Zan h,Zan h];simp[h]
  ·rw[Zam h,Zam h,Zap,An k v l];split<;>simp
theorem HR(k v:Nat)(l:List (Nat×Nat)):(ptN l k v).length<=l.length+1:=by
 have:=Za3 List.length (An k v l);rw[Zab] at this;rw[this];split<;>simp
def kvQ{κ:Type}(fk:Nat->κ)(fv:Nat->PV)(l:List (Nat×Nat)):List (κ×PV):=l.map λp=>(fk p.1,fv p.2)
theorem nJ{κ:Type}[DecidableEq κ]{fk:Nat->κ}{fv:Nat->PV}(inj:∀ a b,fk a=fk b->a=b)(k:Nat):∀ l,cI (kvQ fk fv l) (fk k)=(lk l k).map fv
 |[]=>rfl
 |p::l=>by
  show cI ((fk p.1,fv p.2)::kvQ fk fv l) _=_
  unfold cI lk;by_cases h:p.1=k
  ·subst h;rw[Zan rfl,Zan rfl];rfl
  ·rw[Zam (λe=>h (inj _ _ e)),Zam h];exact nJ inj k l
theorem sE{κ:Type}[DecidableEq κ]{fk:Nat->κ}{fv:Nat->PV}(inj:∀ a b,fk a=fk b->a=b)(k v:Nat):∀ {l:List (Nat×Nat)},(l.map (·.1)).Nodup->iQ (kvQ fk fv l) (fk k) (fv v)=kvQ fk fv (ptN l k v)
 |[],_=>rfl
 |p::l,nd=>by
  rw[Zap,Zbp] at nd;show iQ ((fk p.1,fv p.2)::kvQ fk fv l) _ _=_
  unfold iQ ptN;by_cases h:p.1=k
  ·subst h;have:((kvQ fk fv l).any λe=>decide (e.1=fk p.1))=false:=by
    rw[List.any_eq_false];intro x hx;obtain⟨q,hq,rfl⟩:=Zag.mp hx;simp only[decide_eq_true_eq];exact λe=>nd.1 (by rw[<-inj _ _ e];exact Zag.mpr ⟨q,hq,rfl⟩)
   rw[Zan rfl,Zan rfl,this];rfl
  ·rw[Zam (λe=>h (inj _ _ e)),Zam h,sE inj k v nd.2];rfl
theorem Ao{κ:Type}{fk:Nat->κ}{fv:Nat->PV}(l:List (Nat×Nat)):(kvQ fk fv l).length=l.length:=by simp[kvQ]
theorem Eu{k:Nat}(h:k<=100000):k<sizeLine:=by rw[sizeLine_eq];lia
theorem Kz(ns:List Int):gF (ns.map PV.int)=some (ns.map .inl):=by
 induction ns with
 |nil=>rfl
 |cons n ns ih=>rw[Zap];unfold gF;rw[ih];rfl
theorem yN(p:Sk):gF (.str p.1::p.2.map PV.int)=some (skK p):=by
 unfold gF;rw[Kz];rfl
theorem Aq{p q:Sk}(e:skK p=skK q):p=q:=by
 unfold skK at e;rw[ZbG] at e;refine Zc7 (Sum.inr.inj e.1) ((List.map_inj_right λ_ _ h=>Zb4 h).mp e.2)
theorem Dz(p:Sk):(skP p).still=true:=by
 show(PV.str p.1::p.2.map PV.int).all (rA 4)=true
 rw[ZaP];intro x hx;rcases ZaA.mp hx with e|hx
 ·rw[e];rfl
 ·obtain⟨n,_,rfl⟩:=Zag.mp hx;rfl
theorem U7{l:List (List Key×PV)}{p:Sk}:eE (.dt l) (skP p)=some (cI l (skK p)):=by
 show(gF (.str p.1::p.2.map PV.int)).map (cI l)=_
 rw[yN];rfl
theorem X7{l:List (List Key×PV)}{p:Sk}{q:PV}(h:l.length<sizeLine):zZ (.dt l) (skP p) q=some (.dt (iQ l (skK p) q)):=by
 show(match gF (.str p.1::p.2.map PV.int) with
  |some k=>if l.length<sizeLine then some (PV.dt (iQ l k q)) else none
  |none=>none)=_
 rw[yN];exact Zan h
structure Gs where
 aS:Nat->Sk
 gS:Nat->Sk
 ia:∀ a b,aS a=aS b->a=b
 ig:∀ a b,gS a=gS b->a=b
 la:∀ a,(aS a).2.length=3
 lg:∀ a,(gS a).2.length=3
def Gs.av(G:Gs)(a:Nat):PV:=skP (G.aS a)
def Gs.gv(G:Gs)(a:Nat):PV:=skP (G.gS a)
def Gs.aK(G:Gs)(a:Nat):List Key:=skK (G.aS a)
def Gs.gK(G:Gs)(a:Nat):List Key:=skK (G.gS a)
def Gs.GA(G:Gs)(l:List (Nat×Nat)):PV:=.dt (kvQ G.aK G.gv l)
def Gs.GD(G:Gs)(l:List (Nat×Nat)):PV:=.dt (kvQ G.gK G.av l)
def Gs.AL(G:Gs)(l:List Nat):List PV:=l.map G.av
def Gs.GL(G:Gs)(l:List Nat):List PV:=l.map G.gv
section
variable(G:Gs)
theorem Gs.aKi(a b:Nat)(e:G.aK a=G.aK b):a=b:=G.ia _ _ (Aq e)
theorem Gs.gKi(a b:Nat)(e:G.gK a=G.gK b):a=b:=G.ig _ _ (Aq e)
theorem Gs.still(g:Nat):(G.gv g).still=true:=Dz _
theorem Gs.U8(a:Nat):(G.av a).still=true:=Dz _
theorem Gs.nn(g:Nat):(G.gv g).ux=false:=rfl
theorem Gs.isD(l:List (Nat×Nat)):(G.GD l).isD=true:=rfl
theorem Gs.sh(l:List (Nat×Nat)):PV.mH (G.GD l)=true:=ZaP.mpr λp hp=>by
 obtain⟨n,_,rfl⟩:=Zag.mp hp;exact G.U8 _
theorem Gs.shA(l:List Nat):PV.mH (.lst (G.AL l))=true:=ZaP.mpr λp hp=>by
 obtain⟨n,_,rfl⟩:=Zag.mp hp;exact G.U8 _
theorem Gs.find(l:List (Nat×Nat))(g:Nat):eE (G.GD l) (G.gv g)=some ((lk l g).map G.av):=U7.trans (Za3 some (nJ G.gKi g l))
theorem Gs.Qj(l:List (Nat×Nat))(a:Nat):eE (G.GA l) (G.av a)=some ((lk l a).map G.gv):=U7.trans (Za3 some (nJ G.aKi a l))
theorem Gs.put(l:List (Nat×Nat))(g a:Nat)(nd:(l.map (·.1)).Nodup)(h:l.length<sizeLine):zZ (G.GD l) (G.gv g) (G.av a)=some (G.GD (ptN l g a)):=
 (X7 (by rw[Ao];exact h)).trans (Za3 (λz=>some (PV.dt z)) (sE G.gKi g a nd))
theorem Gs.Zq{l:List (Nat×Nat)}{a g:Nat}(nd:(l.map (·.1)).Nodup)(h:l.length<sizeLine):zZ (G.GA l) (G.av a) (G.gv g)=some (G.GA (ptN l a g)):=
 (X7 (by rw[Ao];exact h)).trans (Za3 (λz=>some (PV.dt z)) (sE G.aKi a g nd))
end
def wiP(G:Gs)(n:Nat)(W:Nat->List Nat):PV:=.dt ((List.range n).map λ(i:Nat)=>(G.aK i,PV.lst (G.GL (W i))))
theorem nM{G:Gs}{f:Nat->PV}{k:Nat}:∀ {l:List Nat},k∈l->cI (l.map λ(i:Nat)=>(G.aK i,f i)) (G.aK k)=some (f k)
 |i::l,h=>by
  rw[Zap];unfold cI;by_cases e:i=k
  ·subst e;rw[Zan rfl]
  ·rw[Zam (λz=>e (G.aKi _ _ z))];exact nM ((ZaA.mp h).resolve_left (Zbj e))
theorem U9{G:Gs}{n k:Nat}{W:Nat->List Nat}(h:k<n):eE (wiP G n W) (G.av k)=some (some (.lst (G.GL (W k)))):=
 U7.trans (Za3 some (nM (f:=λi=>.lst (G.GL (W i))) (Zav.mpr h)))
structure Wk(n:Nat)(W:Nat->List Nat)(B:List (Nat×Nat))(S R:List Nat)(cb:List (Nat×Nat)):Prop where
 eq:R=S++cb.map λp=>(lk B p.1).getD 0
 pr:∀ p∈cb,lk B p.1≠none
 nd:(cb.map (·.1)).Nodup
 wish:∀ p∈cb,p.1∈W p.2
 back:∀ (k:Nat) p,cb[k]?=some p->∃ i,i<S.length+k/\R[i]?=some p.2
 lt:∀ a∈R,a<n
section
variable{n:Nat}{W:Nat->List Nat}{B:List (Nat×Nat)}{S R:List Nat}{cb:List (Nat×Nat)}
theorem Wk.len(h:Wk n W B S R cb):R.length=S.length+cb.length:=by rw[h.eq];simp
theorem Wk.pC{N:Nat}(h:Wk n W B S R cb)(wl:∀ i g,g∈W i->g<N):cb.length<=N:=by
 have:=bT (l:=cb.map (·.1)) (k:=List.range N) h.nd λx hx=>by
  obtain⟨p,hp,rfl⟩:=Zag.mp hx;exact Zav.mpr (wl _ _ (h.wish p hp))
 simpa using this
theorem Wk.start(h:∀ a∈S,a<n):Wk n W B S S []:=⟨by simp,λp h=>by simp at h,by simp,λp h=>by simp at h,λk p e=>by simp at e,h⟩
theorem Wk.more(h:Wk n W B S R cb){a g b i:Nat}(ha:R[i]?=some a)(hg:g∈W a)(hn:lk cb g=none)(hb:lk B g=some b)(bl:b<n):Wk n W B S (R++[b]) (cb++[(g,a)]) where
 eq:=by rw[ZaJ,Zap,Zcw,hb,<-Zby,<-h.eq];rfl
 pr:=λp hp=>by
  rcases ZaK.mp hp with hp|hp
  ·exact h.pr p hp
  ·simp at hp;subst hp;rw[hb];simp
 nd:=by
  rw[ZaJ,Zbi];refine⟨h.nd,by simp,λx hx y hy=>?_⟩
  simp at hy;subst hy;exact λe=>mQ.mp hn (e▸hx)
 wish:=λp hp=>by
  rcases ZaK.mp hp with hp|hp
  ·exact h.wish p hp
  ·simp at hp;subst hp;exact hg
 back:=λk p e=>by
  have hl:=h.len;by_cases hk:k<cb.length
  ·rw[Zak hk] at e;obtain⟨j,h1,h2⟩:=h.back k p e;refine⟨j,h1,?_⟩;rw[Zak (by omega)];exact h2
  ·rw[Zas (by omega)] at e
   have:k=cb.length:=by
    rcases Zc3 (k-cb.length) 1 with q|q
    ·omega
    ·rw[ZaR (by simpa using q)] at e;cases e
   subst this;simp at e;subst e;have hi:i<R.length:=(Zac.mp ha).1;exact⟨i,by omega,by rw[Zak hi];exact ha⟩
 lt:=λx hx=>by
  rcases ZaK.mp hx with hx|hx
  ·exact h.lt x hx
  ·simp at hx;subst hx;exact bl
end
def gvP(G:Gs):Option Nat->PV
 |none=>.non
 |some g=>G.gv g
def W8(n:Nat)(W:Nat->List Nat)(B:List (Nat×Nat))(S:List Nat)(g:Option Nat)(R:List Nat)(cb:List (Nat×Nat)):Prop:=
 match g with
 |none=>Wk n W B S R cb/\∀ a∈R,∀ x∈W a,x∈cb.map (·.1)
 |some g=>∃ (cb':List (Nat×Nat)) (a i:Nat),cb=cb'++[(g,a)]/\Wk n W B S R cb'/\R[i]?=some a/\g∈W a/\lk cb' g=none/\lk B g=none
theorem Zr{G:Gs}{l:List Nat}{i:Nat}{x:PV}(h:(G.AL l)[i]?=some x):∃ g,l[i]?=some g/\x=G.av g:=by
 unfold Gs.AL at h;rw[Zad] at h;cases e:l[i]? with
 |none=>rw[e] at h;cases h
 |some g=>rw[e] at h;cases h;exact⟨g,rfl,rfl⟩
theorem Nt{G:Gs}{l:List Nat}{i:Nat}{x:PV}(h:(G.GL l)[i]?=some x):∃ g,l[i]?=some g/\x=G.gv g:=by
 unfold Gs.GL at h;rw[Zad] at h;cases e:l[i]? with
 |none=>rw[e] at h;cases h
 |some g=>rw[e] at h;cases h;exact⟨g,rfl,rfl⟩
theorem Zt{G:Gs}(l:List Nat)(b:Nat):G.AL l++[G.av b]=G.AL (l++[b]):=by simp[Gs.AL]
theorem Zu{G:Gs}{l:List Nat}{i a:Nat}(h:l[i]?=some a):atI (G.AL l) (i:Int)=some (G.av a):=by
 exact qb (by unfold Gs.AL;rw[Zad,h];rfl)
inductive WlI(G:Gs)(n:Nat)(W:Nat->List Nat)(B:List (Nat×Nat))(S:List Nat)(k:Nat):Rho->Prop
 |mk (R:List Nat) (cb:List (Nat×Nat)) (pl:Nat) (v6 v7:Option Sl) (hk:k+pl=1999) (hpl:pl<=R.length) (hw:Wk n W B S R cb) (hc:∀ i a,i<pl->R[i]?=some a->∀ x∈W a,x∈cb.map (·.1)):WlI G n W B S k [some (.sh (wiP G n W)),some (.sh (G.GD B)),some (.sh (.lst (G.AL S))),some (.ow (.lst (G.AL R))),some (.ow (G.GD cb)),some (.sh (.int (pl:Int))),v6,v7]
inductive WlJ(G:Gs)(n:Nat)(W:Nat->List Nat)(B:List (Nat×Nat))(S:List Nat)(pl a j:Nat):Rho->Prop
 |mk (R:List Nat) (cb:List (Nat×Nat)) (v7:Option Sl) (ha:R[pl]?=some a) (hw:Wk n W B S R cb) (hc:∀ i a,i<pl->R[i]?=some a->∀ x∈W a,x∈cb.map (·.1)) (hj:∀ i x,i<j->(W a)[i]?=some x->x∈cb.map (·.1)):WlJ G n W B S pl a j [some (.sh (wiP G n W)),some (.sh (G.GD B)),some (.sh (.lst (G.AL S))),some (.ow (.lst (G.AL R))),some (.ow (G.GD cb)),some (.sh (.int (pl:Int))),some (.sh (G.av a)),v7]
theorem pZ{G:Gs}{n N:Nat}{W:Nat->List Nat}{B:List (Nat×Nat)}{S:List Nat}(hN:N<=600)(hS:S.length<=600)(sl:∀ a∈S,a<n)(wl:∀ i g,g∈W i->g<N)(bl:∀ g b,lk B g=some b->b<n) :
  ∃ g R cb,nA [wiP G n W,G.GD B,.lst (G.AL S)]=some (.ok (.tup [gvP G g,.lst (G.AL R),G.GD cb]))/\W8 n W B S g R cb:=by
 have big:∀ {k:Nat},k<=9000->k<sizeLine:=λh=>Eu (by lia)
 suffices h:∃ p,nA [wiP G n W,G.GD B,.lst (G.AL S)]=some (.ok p)/\∃ g R cb,p=.tup [gvP G g,.lst (G.AL R),G.GD cb]/\W8 n W B S g R cb by
  obtain⟨p,e,g,R,cb,rfl,h⟩:=h;exact⟨g,R,cb,e,h⟩
 refine Am (PL λQS hQ=>?_);unfold Ds;rw[show startR [wiP G n W,G.GD B,.lst (G.AL S)] 5=[some (.sh (wiP G n W)),some (.sh (G.GD B)),some (.sh (.lst (G.AL S))),none,none,none,none,none] from rfl];walk_at "rd"
 refine pN (n:=1999) (I:=WlI G n W B S) (.mk S [] 0 none none rfl (Za7 _) (Wk.start sl) λi a h=>absurd h (ZbI _)) ?_;rintro k _ ⟨R,cb,pl,v6,v7,hk,hpl,hw,hc⟩;have hR:=hw.len;have hcb:=hw.pC wl;walk_at "rd"
 by_cases hlt:(pl:Int)<((G.AL R).length:Int)
 case neg=>
  rw[Zam hlt];have hpl2:pl=R.length:=by simp only[Gs.AL,Zab] at hlt;lia
  unfold Dr;walk_at "rd"
  refine⟨rfl,G.shA R,G.sh cb,ZaB (big (by lia)),hQ _ ⟨_,rfl,none,R,cb,rfl,hw,λa ha x hx=>?_⟩⟩
  obtain⟨i,hi⟩:=ZaW ha;exact hc i a (by rw[hpl2];exact(Zac.mp hi).1) hi x hx
 case pos=>
  rw[Zan hlt];have hp2:pl<R.length:=by simp only[Gs.AL,Zab] at hlt;lia
  obtain⟨a,ha⟩:∃ a,R[pl]?=some a:=⟨_,Zae hp2⟩;have al:a<n:=hw.lt a (Zah ha);refine⟨by lia,X6 λQS2 hN hC _ _ hR2=>?_⟩
  unfold Dq;walk_at "rd"
  refine⟨(G.av a),Zu ha,rfl,_,U9 al,?_⟩;rw[tv_asSeqL];refine dU (I:=WlJ G n W B S pl a) (.mk R cb v7 ha hw hc λi x h=>absurd h (ZbI _)) ?_ ?_
  case refine_2=>
   rintro _ ⟨R,cb,v7,ha,hw,hc,hj⟩;have hR:=hw.len;have hcb:=hw.pC wl;have hp3:pl<R.length:=(Zac.mp ha).1;walk_at "rd"
   unfold Do;walk_at "rd"
   refine hN _ (.mk R cb (pl+1) (some (.sh (G.av a))) v7 (by lia) hp3 hw λi b hi hb x hx=>?_)
   by_cases e:i=pl
   ·subst e;rw[ha] at hb;cases hb;obtain⟨i,hi⟩:=ZaW hx;exact hj i x (by simpa[Gs.GL] using(Zac.mp hi).1) hi
   ·exact hc i b (by lia) hb x hx
  rintro j y _ ey ⟨R,cb,v7,ha,hw,hc,hj⟩;refine X6 λQS3 hN3 hC3 _ _ hR3=>?_;obtain⟨g,eg,rfl⟩:=Nt ey;have hR:=hw.len;have hcb:=hw.pC wl;have hg:g∈W a:=Zah eg;unfold Dm;walk_at "rd"
  refine⟨G.isD _,_,G.find _ _,?_⟩;cases hk2:lk cb g with
  |some z=>
   rw[Zbt,ZbM,Zan rfl];refine hC3 _ (.mk R cb _ ha hw hc λi x hi hx=>?_);by_cases e:i=j
   ·subst e;rw[eg] at hx;cases hx;exact Zag.mpr ⟨_,Dy hk2,rfl⟩
   ·exact hj i x (by lia) hx
  |none=>
   rw[Zct,Zb3,Zam (by decide)]
   unfold Dl;walk_at "rd"
   refine⟨_,G.put _ _ _ hw.nd (big (by lia)),G.isD _,_,G.find _ _,?_⟩
   rw[Nr _ _ _ hk2];cases hb:lk B g with
   |none=>
    rw[Zct,Zb3,Zan (by decide)]
    unfold Dj;walk_at "rd"
    exact⟨G.still g,G.shA R,G.sh _,ZaB (big (by lia)),hR3 _ (hR2 _ (hQ _ ⟨_,rfl,some g,R,_,rfl,cb,a,pl,rfl,hw,ha,hg,hk2,hb⟩))⟩
   |some b=>
    rw[Zbt,ZbM,Zam (by decide)]
    unfold Dk;walk_at "rd"
    have hp3:pl<R.length:=(Zac.mp ha).1;have sub:∀ x,x∈cb.map (·.1)->x∈(cb++[(g,a)]).map (·.1):=λx hx=>by rw[ZaJ];exact Zbv _ hx
    have M:WlJ G n W B S pl a (j+1) _:=.mk (R++[b]) (cb++[(g,a)]) (some (.sh (G.gv g))) (by rw[Zak hp3];exact ha) (hw.more ha hg hk2 hb (bl g b hb)) (λi c hi hc' x hx=>by
     rw[Zak (by lia)] at hc'
     exact sub x (hc i c hi hc' x hx)) λi x hi hx=>by
      by_cases e:i=j
      ·subst e;rw[eg] at hx;cases hx;simp
      ·exact sub x (hj i x (by lia) hx)
    rw[<-Zt] at M;exact⟨G.isD _,(G.av b),by rw[G.find,hb];rfl,by simp only[Gs.AL,Zab];exact big (by lia),hN3 _ M⟩
structure Pm(n:Nat)(W:Nat->List Nat)(A B:List (Nat×Nat)):Prop where
 ndA:(A.map (·.1)).Nodup
 ndB:(B.map (·.1)).Nodup
 iff:∀ a g,lk A a=some g↔lk B g=some a
 ok:∀ {a g},lk A a=some g->g∈W a/\a<n
structure Bk(n:Nat)(W:Nat->List Nat)(B:List (Nat×Nat))(s:Nat)(cb:List (Nat×Nat)):Prop where
 nd:(cb.map (·.1)).Nodup
 wish:∀ p∈cb,p.1∈W p.2
 back:∀ (k:Nat) p,cb[k]?=some p->p.2=s\/∃ (j:Nat) (q:Nat×Nat),j<k/\cb[j]?=some q/\lk B q.1=some p.2
 lt:∀ p∈cb,p.2<n
theorem Wk.bk{n:Nat}{W:Nat->List Nat}{B:List (Nat×Nat)}{s:Nat}{R:List Nat}{cb:List (Nat×Nat)}(h:Wk n W B [s] R cb){g a i:Nat}(ha:R[i]?=some a)(hg:g∈W a)(hn:lk cb g=none):Bk n W B s (cb++[(g,a)]) where
 nd:=by
  rw[ZaJ,Zbi];refine⟨h.nd,by simp,λx hx y hy=>?_⟩
  simp at hy;subst hy;exact λe=>mQ.mp hn (e▸hx)
 wish:=λp hp=>by
  rcases ZaK.mp hp with hp|hp
  ·exact h.wish p hp
  ·simp at hp;subst hp;exact hg
 back:=λk p e=>by
  have hl:=h.len;obtain⟨j,hj,ej⟩:∃ j,j<1+k/\R[j]?=some p.2:=by
   by_cases hk:k<cb.length
   ·rw[Zak hk] at e;exact h.back k p e
   ·rw[Zas (by lia)] at e
    have:k=cb.length:=by
     rcases Zc3 (k-cb.length) 1 with q|q
     ·lia
     ·rw[ZaR (by simpa using q)] at e;cases e
    subst this;simp at e;subst e;have hi:i<R.length:=(Zac.mp ha).1;exact⟨i,by simp at hl;lia,ha⟩
  have hjR:j<R.length:=(Zac.mp ej).1;rw[h.eq] at ej;cases j with
  |zero=>left;simpa using ej.symm
  |succ j=>
   right
   rw[Zas (by simp)] at ej
   simp only[ZaQ,Zcq,Nat.zero_add,Nat.add_sub_cancel,Zad] at ej;cases q:cb[j]? with
   |none=>rw[q] at ej;cases ej
   |some p'=>
    rw[q] at ej;have ej:some ((lk B p'.1).getD 0)=some p.2:=ej;have hp':=h.pr p' (Zah q);have jl:j<cb.length:=(Zac.mp q).1;refine⟨j,p',by lia,by rw[Zak jl];exact q,?_⟩
    cases z:lk B p'.1 with
    |none=>exact absurd z hp'
    |some b=>rw[z] at ej;exact Za3 some (Zaf ej)
 lt:=λp hp=>by
  rcases ZaK.mp hp with hp|hp
  ·obtain⟨k,hk⟩:=ZaW hp;obtain⟨j,_,ej⟩:=h.back k p hk;exact h.lt _ (Zah ej)
  ·simp at hp;subst hp;exact h.lt _ (Zah ha)
structure Jp(n N:Nat)(W:Nat->List Nat)(A0 B0:List (Nat×Nat))(s:Nat)(cb:List (Nat×Nat))(Dd:Nat->Prop)(k x:Nat)(A B:List (Nat×Nat)):Prop where
 ndA:(A.map (·.1)).Nodup
 ndB:(B.map (·.1)).Nodup
 kA:∀ a∈A.map (·.1),a<n
 kB:∀ a∈B.map (·.1),a<N
 old:∀ (i:Nat) p b,i<k->cb[i]?=some p->lk A0 b=some p.1->lk A b=some p.1
 st:lk A s=none
 iff:∀ a g,g≠x->(lk A a=some g↔lk B g=some a)
 no:∀ a,lk A a≠some x
 ok:∀ {a g},lk A a=some g->g∈W a/\a<n
 xd:∀ d,Dd d->lk B0 x≠some d
 bd:∀ g d,Dd d->lk B0 g=some d->lk B g=some d
 more:∀ b,lk A0 b≠none->lk A b≠none
 less:∀ b,lk A b≠none->lk A0 b≠none
def dH(W:Nat->List Nat)(B:List (Nat×Nat))(Dd:Nat->Prop):Prop:=∀ d,Dd d->∀ g∈W d,∃ d',lk B g=some d'/\Dd d'
section
variable{n N:Nat}{W:Nat->List Nat}{A0 B0 A B:List (Nat×Nat)}{s k x a:Nat}{cb:List (Nat×Nat)}{Dd:Nat->Prop}
theorem zP{l:List (Nat×Nat)}(h:(l.map (·.1)).Nodup)(k v:Nat):((ptN l k v).map (·.1)).Nodup:=by
 rw[An];split
 ·rename_i e;rw[Zbi];refine⟨h,by simp,λx hx y hy=>?_⟩
  simp at hy;subst hy;exact λz=>mQ.mp e (z▸hx)
 ·exact h
theorem Qk{l:List (Nat×Nat)}{k v n:Nat}(h:∀ a∈l.map (·.1),a<n)(hk:k<n):∀ a∈(ptN l k v).map (·.1),a<n:=by
 rw[An];split
 ·intro a ha;rcases ZaK.mp ha with ha|ha
  ·exact h a ha
  ·simp at ha;subst ha;exact hk
 ·exact h
theorem jQ{l:List (Nat×Nat)}{n:Nat}(nd:(l.map (·.1)).Nodup)(h:∀ a∈l.map (·.1),a<n):l.length<=n:=by
 have:=bT (l:=l.map (·.1)) (k:=List.range n) nd λx hx=>Zav.mpr (h x hx);simpa using this
theorem Jp.last(P:Pm n W A0 B0)(b:Bk n W B0 s cb)(c:dH W B0 Dd)(j:Jp n N W A0 B0 s cb Dd k x A B)(e:cb[k]?=some (x,a))(hl:lk A a=none):Pm n W (ptN A a x) (ptN B x a)/\lk (ptN A a x) s≠none/\(∀ b,lk A0 b≠none->lk (ptN A a x) b≠none)/\(∀ b,lk (ptN A a x) b≠none->b=s\/lk A0 b≠none)/\dH W (ptN B x a) Dd:=by
 have xa:x∈W a:=b.wish _ (Zah e);have as:a=s:=by
  rcases b.back k _ e with h|⟨i,q,hi,eq,hq⟩
  ·exact h
  ·exact absurd hl (j.more a (by rw[(P.iff _ _).mpr hq];simp))
 refine⟨⟨zP j.ndA _ _,zP j.ndB _ _,λb' g=>?_,λ{b' g} h=>?_⟩,by rw[gn,Zan as.symm];simp,λb' hb=>?_,λb' hb=>?_,λd hd g hg=>?_⟩
 ·rw[gn,gn];by_cases hb:b'=a
  ·subst hb;rw[Zan rfl];by_cases hx:g=x
   ·subst hx;simp
   ·rw[Zam hx];refine⟨λz=>absurd (Zaf z).symm hx,λz=>?_⟩;rw[(j.iff _ _ hx).mpr z] at hl;cases hl
  ·rw[Zam hb];by_cases hx:g=x
   ·subst hx;rw[Zan rfl];exact⟨λz=>absurd z (j.no b'),λz=>absurd (Zaf z).symm hb⟩
   ·rw[Zam hx];exact j.iff _ _ hx
 ·rw[gn] at h;split at h
  ·rename_i hb;cases h;subst hb;exact⟨xa,b.lt _ (Zah e)⟩
  ·exact j.ok h
 ·rw[gn];split
  ·simp
  ·exact j.more b' hb
 ·rw[gn] at hb;split at hb
  ·rename_i e';exact .inl (e'.trans as)
  ·exact .inr (j.less b' hb)
 ·obtain⟨d',h1,h2⟩:=c d hd g hg;refine⟨d',?_,h2⟩;rw[gn,Zam λz=>by subst z;exact j.xd d' h2 h1]
  exact j.bd g d' h2 h1
theorem Jp.step(P:Pm n W A0 B0)(wl:∀ i g,g∈W i->g<N)(b:Bk n W B0 s cb)(c:dH W B0 Dd)(j:Jp n N W A0 B0 s cb Dd k x A B)(e:cb[k]?=some (x,a)){y:Nat}(hl:lk A a=some y):∃ k2 a2,k2<k/\cb[k2]?=some (y,a2)/\Jp n N W A0 B0 s cb Dd k2 y (ptN A a x) (ptN B x a):=by
 have xa:x∈W a:=b.wish _ (Zah e);have an:a<n:=b.lt _ (Zah e);have sa:s≠a:=λz=>by subst z;rw[j.st] at hl;cases hl
 obtain⟨i,q,hi,eq,hq⟩:=(b.back k _ e).resolve_left (Zbj sa);have hA0:=(P.iff _ _).mpr hq;have yq:y=q.1:=by have:=j.old i q a hi eq hA0;rw[hl] at this;exact Zaf this
 subst yq;have nx:∀ (i':Nat) p,i'<k->cb[i']?=some p->p.1≠x:=λi' p h1 h2 z=>by
  have e1:(cb.map (·.1))[i']?=some x:=by rw[Zad,h2];exact Za3 some z
  have e2:(cb.map (·.1))[k]?=some x:=by rw[Zad,e];rfl
  have l1:i'<(cb.map (·.1)).length:=(Zac.mp e1).1;have:=(Zb9 l1 b.nd).mp (e1.trans e2.symm);lia
 have da:¬Dd a:=λhd=>by
  obtain⟨d',h1,h2⟩:=c a hd x xa;exact j.xd d' h2 h1
 have ny:=nx i q hi eq;refine⟨i,q.2,hi,eq,zP j.ndA _ _,zP j.ndB _ _,Qk j.kA an,Qk j.kB (wl _ _ xa),λi' p b' h1 h2 h3=>?_,by rw[gn,Zam sa];exact j.st,λb' g hg=>?_,λb'=>?_,λ{b' g} h=>?_,λd hd z=>?_,λg d hd z=>?_,λb' hb'=>?_,λb' hb'=>?_⟩
 ·rw[gn,Zam λz=>?_]
  ·exact j.old i' p b' (by lia) h2 h3
  ·subst z;rw[hA0] at h3;have z:q.1=p.1:=Zaf h3;have e1:(cb.map (·.1))[i']?=some q.1:=by rw[Zad,h2];exact Za3 some z.symm
   have e2:(cb.map (·.1))[i]?=some q.1:=by rw[Zad,eq];rfl
   have l1:i'<(cb.map (·.1)).length:=(Zac.mp e1).1;have:=(Zb9 l1 b.nd).mp (e1.trans e2.symm);lia
 ·rw[gn,gn];by_cases hb:b'=a
  ·subst hb;rw[Zan rfl];by_cases hx:g=x
   ·subst hx;simp
   ·rw[Zam hx];refine⟨λz=>absurd (Zaf z).symm hx,λz=>?_⟩;rw[(j.iff _ _ hx).mpr z] at hl;exact absurd (Zaf hl) hg
  ·rw[Zam hb];by_cases hx:g=x
   ·subst hx;rw[Zan rfl];exact⟨λz=>absurd z (j.no b'),λz=>absurd (Zaf z).symm hb⟩
   ·rw[Zam hx];exact j.iff _ _ hx
 ·rw[gn];split
  ·exact λz=>ny (Zaf z).symm
  ·rename_i hb;exact λz=>hb (by have h1:=(j.iff _ _ ny).mp z;have h2:=(j.iff _ _ ny).mp hl;rw[h1] at h2;exact Zaf h2)
 ·rw[gn] at h;split at h
  ·rename_i hb;cases h;subst hb;exact⟨xa,an⟩
  ·exact j.ok h
 ·rw[hq] at z;cases z;exact da hd
 ·rw[gn,Zam λw=>by subst w;exact j.xd d hd z]
  exact j.bd g d hd z
 ·rw[gn];split
  ·simp
  ·exact j.more b' hb'
 ·rw[gn] at hb';split at hb'
  ·rename_i e';subst e';exact j.less _ (by rw[hl];simp)
  ·exact j.less b' hb'
end
theorem yO{G:Gs}{A B cb:List (Nat×Nat)}:gH [G.GA A,G.GD B,G.GD cb,.non]=some (.ok (.tup [G.GA A,G.GD B])):=by
 suffices h:∃ p,gH [G.GA A,G.GD B,G.GD cb,.non]=some (.ok p)/\p=.tup [G.GA A,G.GD B] by
  obtain⟨p,e,rfl⟩:=h;exact e
 show ∃ p,vy (kY (dR [G.GA A,G.GD B,G.GD cb,.non] 3))=some (.ok p)/\p=.tup [G.GA A,G.GD B]
 refine tR ?_;unfold kY;rw[show dR [G.GA A,G.GD B,G.GD cb,.non] 3=[some (.ow (G.GA A)),some (.ow (G.GD B)),some (.sh (G.GD cb)),some (.sh .non),none,none,none] from rfl];walk_at "rd"
 refine pN (n:=1999) (I:=λ_ Z=>Z=[some (.ow (G.GA A)),some (.ow (G.GD B)),some (.sh (G.GD cb)),some (.sh .non),some (.sh .non),none,none]) rfl ?_;rintro k Z rfl;walk_at "rd"
 try rw[Zam (show ¬PV.non.ux=false by decide)]
 exact⟨_,rfl,rfl⟩
def PrY(n N:Nat)(W:Nat->List Nat)(A0 B0:List (Nat×Nat))(s:Nat)(cbx:List (Nat×Nat))(Dd:Nat->Prop)(m:Nat)(A B:List (Nat×Nat)):Option Nat->Prop
 |none=>Pm n W A B/\lk A s≠none/\(∀ b,lk A0 b≠none->lk A b≠none)/\(∀ b,lk A b≠none->b=s\/lk A0 b≠none)/\dH W B Dd
 |some x=>∃ k a,cbx[k]?=some (x,a)/\k<m/\Jp n N W A0 B0 s cbx Dd k x A B
inductive PrI(G:Gs)(n N:Nat)(W:Nat->List Nat)(A0 B0:List (Nat×Nat))(s:Nat)(cbx:List (Nat×Nat))(Dd:Nat->Prop)(g m:Nat):Rho->Prop
 |mk (A B:List (Nat×Nat)) (y:Option Nat) (v5 v6:Option Sl) (hy:PrY n N W A0 B0 s cbx Dd m A B y):PrI G n N W A0 B0 s cbx Dd g m [some (.ow (G.GA A)),some (.ow (G.GD B)),some (.sh (G.GD cbx)),some (.sh (G.gv g)),some (.sh (gvP G y)),v5,v6]
theorem HS{G:Gs}{n N:Nat}{W:Nat->List Nat}{A0 B0 cb:List (Nat×Nat)}{s g a:Nat}{Dd:Nat->Prop}(hn:n<=600)(hN:N<=600)(wl:∀ i g,g∈W i->g<N)(P:Pm n W A0 B0)(b:Bk n W B0 s (cb++[(g,a)]))(c:dH W B0 Dd)(hs:lk A0 s=none)(hg:lk B0 g=none) :
  ∃ A B,gH [G.GA A0,G.GD B0,G.GD (cb++[(g,a)]),G.gv g]=some (.ok (.tup [G.GA A,G.GD B]))/\Pm n W A B/\lk A s≠none/\(∀ b,lk A0 b≠none->lk A b≠none)/\(∀ b,lk A b≠none->b=s\/lk A0 b≠none)/\dH W B Dd:=by
 have big:∀ {k:Nat},k<=9000->k<sizeLine:=λh=>Eu (by lia)
 suffices h:∃ p,gH [G.GA A0,G.GD B0,G.GD (cb++[(g,a)]),G.gv g]=some (.ok p)/\∃ A B,p=.tup [G.GA A,G.GD B]/\Pm n W A B/\lk A s≠none/\(∀ b,lk A0 b≠none->lk A b≠none)/\(∀ b,lk A b≠none->b=s\/lk A0 b≠none)/\dH W B Dd by
  obtain⟨p,e,A,B,rfl,h⟩:=h;exact⟨A,B,e,h⟩
 generalize hcb:cb++[(g,a)]=cbx at b ⊢
 have e0:cbx[cb.length]?=some (g,a):=by rw[<-hcb];simp
 have hlen:cbx.length<=N:=jQ b.nd λx hx=>by
  obtain⟨p,hp,rfl⟩:=Zag.mp hx;exact wl _ _ (b.wish p hp)
 have kl:∀ {l:List (Nat×Nat)}{k:Nat},k∈l.map (·.1)->∃ v,lk l k=some v:=λ{l k} h=>by
  cases e:lk l k with
  |none=>exact absurd h (mQ.mp e)
  |some v=>exact⟨v,rfl⟩
 have j0:Jp n N W A0 B0 s cbx Dd cb.length g A0 B0:=by
  refine⟨P.ndA,P.ndB,λx hx=>?_,λx hx=>?_,λi p b' h1 h2 h3=>h3,hs,λa' g' _=>P.iff a' g',λa' z=>?_,P.ok,λd _ z=>?_,λg' d _ z=>z,λb' z=>z,λb' z=>z⟩
  ·obtain⟨v,hv⟩:=kl hx;exact(P.ok hv).2
  ·obtain⟨v,hv⟩:=kl hx;exact wl _ _ (P.ok ((P.iff _ _).mpr hv)).1
  ·rw[(P.iff _ _).mp z] at hg;cases hg
  ·rw[hg] at z;cases z
 refine tR (PL λQS hQ=>?_);unfold kY;rw[show dR [G.GA A0,G.GD B0,G.GD cbx,G.gv g] 3=[some (.ow (G.GA A0)),some (.ow (G.GD B0)),some (.sh (G.GD cbx)),some (.sh (G.gv g)),none,none,none] from rfl];walk_at "rd"
 refine pN (n:=1999) (I:=PrI G n N W A0 B0 s cbx Dd g) (.mk A0 B0 (some g) none none ⟨cb.length,a,e0,by have:=(Zac.mp e0).1;lia,j0⟩) ?_
 rintro m _ ⟨A,B,y,v5,v6,hy⟩;cases y with
 |none=>
  rw[show gvP G none=.non from rfl];walk_at "rd"
  try rw[Zam (show ¬PV.non.ux=false by decide)]
  exact hQ _ ⟨_,rfl,A,B,rfl,hy⟩
 |some x=>
  obtain⟨k,a',ek,km,j⟩:=hy;rw[show gvP G (some x)=G.gv x from rfl];walk_at "rd"
  rw[Zan (G.nn x)];refine⟨by lia,Km λQS2 hQ2=>?_⟩
  unfold uD;have lc:lk cbx x=some a':=zO b.nd (Zah ek);have lA:=jQ j.ndA j.kA;have lB:=jQ j.ndB j.kB;walk_at "rd"
  have M:PrI G n N W A0 B0 s cbx Dd g (m-1) _:=.mk (ptN A a' x) (ptN B x a') (lk A a') (some (.sh ((G.av a')))) (some (.sh ((Option.map G.gv (lk A a')).getD PV.non))) (by
   cases hl:lk A a' with
   |none=>exact j.last P b c ek hl
   |some y=>
    obtain⟨k2,a2,h1,h2,h3⟩:=j.step P wl b c ek hl;exact⟨k2,a2,h2,by lia,h3⟩)
  rw[show gvP G (lk A a')=(Option.map G.gv (lk A a')).getD PV.non by cases lk A a'<;>rfl] at M
  exact⟨G.isD _,(G.av a'),by rw[G.find,lc];rfl,rfl,_,G.Qj _ _,_,G.Zq j.ndA (big (by lia)),_,G.put _ _ _ j.ndB (big (by lia)),hQ2 _ M⟩
theorem KC(p:Sk):uC (skK p)=skP p:=by
 unfold uC skK skP;rw[Zap,ZaG];rfl
theorem tZ(G:Gs)(n:Nat)(W:Nat->List Nat):vD ((List.range n).map λ(i:Nat)=>(G.aK i,PV.lst (G.GL (W i))))=G.AL (List.range n):=by
 unfold vD Gs.AL;rw[ZaG];exact Za6 λi _=>KC _
theorem DG{l:List (List Key×PV)}{Q:List PV->Prop}:Tv (xu (.dt l)) Q=Q (vD l):=tv_some
theorem Gr{l:List (List Key×PV)}{Q:List PV->Prop}:Tv (xx (.dt l)) Q=Q (qt l):=tv_some
inductive MpI(G:Gs)(n:Nat)(W:Nat->List Nat)(j:Nat):Rho->Prop
 |mk (A B:List (Nat×Nat)) (v3 v4:Option Sl) (P:Pm n W A B) (un:∀ a,j<=a->lk A a=none) (Dd:Nat->Prop) (c:dH W B Dd) (hd:∀ a,a<j->lk A a=none->Dd a):MpI G n W j [some (.sh (wiP G n W)),some (.ow (G.GA A)),some (.ow (G.GD B)),v3,v4]
theorem HW{G:Gs}{n N:Nat}{W:Nat->List Nat}(hn:n<=600)(hN:N<=600)(wl:∀ i g,g∈W i->g<N) :
  ∃ A B,jJ [wiP G n W]=some (.ok (G.GA A))/\Pm n W A B/\∃ Dd,dH W B Dd/\∀ a,a<n->lk A a=none->Dd a:=by
 have big:∀ {k:Nat},k<=9000->k<sizeLine:=λh=>Eu (by omega)
 suffices h:∃ p,jJ [wiP G n W]=some (.ok p)/\∃ A B,p=G.GA A/\Pm n W A B/\∃ Dd,dH W B Dd/\∀ a,a<n->lk A a=none->Dd a by
  obtain⟨p,e,A,B,rfl,h⟩:=h;exact⟨A,B,e,h⟩
 refine tQ (PL λQS hQ=>?_);unfold qx;rw[show startR [wiP G n W] 4=[some (.sh (wiP G n W)),none,none,none,none] from rfl];walk_at "rd"
 refine⟨rfl,?_⟩;rw[show wiP G n W=.dt ((List.range n).map λ(i:Nat)=>(G.aK i,PV.lst (G.GL (W i)))) from rfl,DG,tZ,<-show wiP G n W=.dt ((List.range n).map λ(i:Nat)=>(G.aK i,PV.lst (G.GL (W i)))) from rfl];refine dU (I:=MpI G n W) (.mk [] [] none none ⟨by simp,by simp,λa g=>by simp[lk],λ{a g} h=>by simp[lk] at h⟩ (λa _=>rfl) (λ_=>False) (λd h=>h.elim) λa h=>absurd h (ZbI _)) ?_ ?_
 case refine_2=>
  rintro _ ⟨A,B,v3,v4,P,un,Dd,c,hd⟩;walk_at "rd"
  unfold rQ;walk_at "rd"
  exact hQ _ ⟨_,rfl,A,B,rfl,P,Dd,c,λa ha=>hd a (by simpa[Gs.AL] using ha)⟩
 rintro j y _ ey ⟨A,B,v3,v4,P,un,Dd,c,hd⟩;refine Km λQS2 hQ2=>?_;obtain⟨s,es,rfl⟩:=Zr ey;have hs:s=j/\s<n:=by
  have hj:j<n:=by simpa using(Zac.mp es).1
  rw[Za4 hj] at es;cases es;exact⟨rfl,hj⟩
 obtain⟨rfl,sn⟩:=hs;obtain⟨g,R,cb,ew,he⟩:=pZ (G:=G) (B:=B) (S:=[s]) hN (by simp) (λa ha=>by simp at ha;omega) wl λg b h=>(P.ok ((P.iff _ _).mpr h)).2
 unfold rP;walk_at "rd"
 refine⟨ZaB (big (by omega)),?_⟩
 rw[show[(G.av s)]=G.AL [s] from rfl,ew];walk_at "rd"
 cases g with
 |none=>
  obtain⟨hw,hc⟩:=he;refine⟨_,_,yO,hQ2 _ (.mk A B _ _ P (λa ha=>un a (by omega)) (λd=>Dd d\/d∈R) (λd hd' g hg=>?_) λa ha hl=>?_)⟩
  ·rcases hd' with h|h
   ·obtain⟨d',h1,h2⟩:=c d h g hg;exact⟨d',h1,.inl h2⟩
   ·obtain⟨p,hp,rfl⟩:=Zag.mp (hc d h g hg);cases e:lk B p.1 with
    |none=>exact absurd e (hw.pr p hp)
    |some b=>
     refine⟨b,rfl,.inr ?_⟩;rw[hw.eq];exact ZaN _ (Zag.mpr ⟨p,hp,by rw[e];rfl⟩)
  ·by_cases e:a=s
   ·right;subst e;rw[hw.eq];simp
   ·exact .inl (hd a (by omega) hl)
 |some g=>
  obtain⟨cb',a,i,rfl,hw,ha,hg,hk,hb⟩:=he;obtain⟨A',B',e1,P',h1,h2,h3,c'⟩:=HS (G:=G) hn hN wl P (hw.bk ha hg hk) c (un s (Zal _)) hb;refine⟨_,_,e1,hQ2 _ (.mk A' B' _ _ P' (λb hb'=>?_) Dd c' λb hb' hl=>?_)⟩
  ·cases e:lk A' b with
   |none=>rfl
   |some z=>
    rcases h3 b (by rw[e];simp) with h|h
    ·omega
    ·exact absurd (un b (by omega)) h
  ·by_cases e:b=s
   ·subst e;exact absurd hl h1
   ·refine hd b (by omega) ?_
    cases z:lk A b with
    |none=>rfl
    |some z'=>exact absurd hl (h2 b (by rw[z];simp))
theorem fQ{α:Type}{tg:PV->Rho->Option Rho}{tst:Fn Bool}{el:Fn PV}{ρb:Rho}(src:α->PV)(t:α->Bool)(f:α->PV):∀ (l:List α),
  (∀ x∈l,∃ ρ1,tg (src x) ρb=some ρ1/\tst ρ1=some (.ok (t x))/\(t x=true->el ρ1=some (.ok (f x))))->fD tg tst el ρb (l.map src)=some (.ok ((l.filter t).map f))
 |[],_=>rfl
 |x::xs,h=>by
  obtain⟨ρ1,e1,e2,e3⟩:=h x Zaw;have ih:=fQ src t f xs λy hy=>h y (Zaq _ hy);rw[Zap,fD,e1];simp only[e2,bnd];cases ht:t x with
  |true=>simp only[Zbw,e3 ht,ih,bnd,ZbC,ht,Zap]
  |false=>simp only[Zbs,Zba,ih,ZbC,ht]
def uo(l B:List (Nat×Nat)):List (Nat×Nat):=l.foldl (λB p=>ptN B p.2 p.1) B
theorem Ql{g a:Nat}:∀ (l:List (Nat×Nat)) {B:List (Nat×Nat)},(l.map (·.2)).Nodup->(lk (uo l B) g=some a↔(a,g)∈l\/(lk B g=some a/\g ∉ l.map (·.2)))
 |[],B,_=>by simp[uo]
 |p::l,B,nd=>by
  rw[Zap,Zbp] at nd;show lk (uo l (ptN B p.2 p.1)) g=some a↔_
  rw[Ql l nd.2,gn];by_cases h:g=p.2
  ·subst h;rw[Zan rfl];constructor
   ·rintro(h|⟨h,_⟩)
    ·exact .inl (Zaq _ h)
    ·cases h;exact .inl Zaw
   ·rintro(h|⟨_,h⟩)
    ·rcases ZaA.mp h with e|h
     ·right;rw[<-e];exact⟨rfl,by rw[show(a,p.2).2=p.2 from rfl];exact nd.1⟩
     ·exact absurd (Zag.mpr ⟨_,h,rfl⟩) nd.1
    ·simp at h
  ·rw[Zam h];constructor
   ·rintro(q|⟨q1,q2⟩)
    ·exact .inl (Zaq _ q)
    ·exact .inr ⟨q1,by simp only[Zap,ZaA,not_or];exact⟨h,q2⟩⟩
   ·rintro(q|⟨q1,q2⟩)
    ·rcases ZaA.mp q with e|q
     ·rw[<-e] at h;exact absurd rfl h
     ·exact .inl q
    ·simp only[Zap,ZaA,not_or] at q2;exact .inr ⟨q1,q2.2⟩
theorem yd{G:Gs}:∀ (l:List (Nat×Nat)) {B:List (Nat×Nat)},(B.map (·.1)).Nodup->B.length+l.length<=9000->fK (G.GD B) (l.map λp=>(G.gv p.2,G.av p.1))=some (G.GD (uo l B))
 |[],_,_,_=>rfl
 |p::l,B,nd,h=>by
  have h1:=G.put B p.2 p.1 nd (Eu (by simp at h;lia))
  rw[Zap];unfold fK;rw[h1];exact yd l (zP nd _ _) (by have:=HR p.2 p.1 B;simp at h;lia)
theorem sG{G:Gs}:∀ (l:List (Nat×Nat)),jH (l.map λp=>PV.tup [G.gv p.2,G.av p.1])=some (l.map λp=>(G.gv p.2,G.av p.1))
 |[]=>rfl
 |p::l=>by
  rw[Zap];unfold jH;rw[sG l];rfl
theorem Pm.aaz{n:Nat}{W:Nat->List Nat}{A B:List (Nat×Nat)}(P:Pm n W A B):(A.map (·.2)).Nodup:=by
 have h:=P.ndA;rw[List.Nodup,Zbd] at h ⊢;refine h.imp_of_mem λ{p q} hp hq hne e=>hne ?_;have h1:=(P.iff _ _).mp (zO P.ndA (show(p.1,p.2)∈A from hp));have h2:=(P.iff _ _).mp (zO P.ndA (show(q.1,q.2)∈A from hq));rw[e,h2] at h1;exact(Zaf h1).symm
theorem Pm.rev{n:Nat}{W:Nat->List Nat}{A B:List (Nat×Nat)}(P:Pm n W A B)(g a:Nat):lk (uo A []) g=some a↔lk B g=some a:=by
 rw[Ql A P.aaz,<-P.iff];simp only[lk,reduceCtorEq,false_and,or_false];exact⟨λh=>zO P.ndA h,λh=>Dy h⟩
def dM(n:Nat)(A:List (Nat×Nat)):List Nat:=(List.range n).filter λa=>(lk A a).isNone
theorem ye(G:Gs)(l:List (Nat×Nat)):qt (kvQ G.aK G.gv l)=l.map λp=>PV.tup [G.av p.1,G.gv p.2]:=by
 unfold qt kvQ;rw[ZaG];exact Za6 λp _=>by show PV.tup [uC (skK (G.aS p.1)),G.gv p.2]=_;rw[KC];rfl
def yP(ps:List Sk):List Sk:=(iY ps).map λj=>ps.getD j default
theorem t6(ps:List Sk):(yP ps).Perm ps:=by
 have h:=(pK ps).map λj=>ps.getD j default;refine h.trans (List.Perm.of_eq ?_);apply ZbE
 intro i;rw[Zad];by_cases hi:i<ps.length
 ·rw[Za4 hi,Zae hi];show some (ps.getD i default)=_
  rw[Zao,Zae hi];rfl
 ·rw[ZaR (by simpa using hi),ZaR (by simpa using hi)];rfl
theorem Gu:∀ (ps:List Sk),CQ (ps.map skP)=some ps
 |[]=>rfl
 |p::ps=>by
  rw[Zap];unfold CQ;rw[Gu ps];have:Zm (skP p)=some p:=by
   show(iM (p.2.map PV.int)).map _=_
   rw[MM.nq];rfl
  rw[this]
theorem Gw:∀ (ns:List Int),zH (ns.map .inl)=some ns
 |[]=>rfl
 |n::ns=>by
  show(zH (ns.map .inl)).map (n::·)=_
  rw[Gw ns];rfl
theorem KD:∀ (ps:List Sk),Eo (ps.map skK)=some ps
 |[]=>rfl
 |p::ps=>by
  rw[Zap];unfold Eo;rw[KD ps];have:kSk (skK p)=some p:=by
   show(zH (p.2.map .inl)).map _=_
   rw[Gw];rfl
  rw[this]
theorem KH{ps:List Sk}(h:∀ p∈ps,p.2.length=3):oE ps=true:=by
 cases ps with
 |nil=>rfl
 |cons p l=>
  refine ZaP.mpr λq hq=>?_;rw[h q (Zaq _ hq),h p Zaw];rfl
theorem Qm{ps:List Sk}(nd:ps.Nodup)(h:∀ p∈ps,p.2.length=3)(hl:ps.length<64):tM (ps.map skP)=some (.ok (.lst ((yP ps).map skP))):=by
 unfold tM;rw[Gu];show(if _ then _ else _)=_
 rw[Zan ⟨nd,KH h,hl⟩];unfold yP;rw[ZaG];rfl
theorem W9{l:List (List Key×PV)}{ps:List Sk}(e:l.map (·.1)=ps.map skK)(nd:ps.Nodup)(h:∀ p∈ps,p.2.length=3)(hl:ps.length<64):CV (.dt l)=some (.ok (.lst ((yP ps).map skP))):=by
 show(match Eo (l.map (·.1)) with
  |some ps=>if ps.Nodup/\oE ps=true/\ps.length<64 then some (Res.ok (PV.lst ((iY ps).map λj=>skP (ps.getD j default)))) else none
  |none=>none)=_
 rw[e,KD];show(if _ then _ else _)=_
 rw[Zan ⟨nd,KH h,hl⟩];unfold yP;rw[ZaG];rfl
theorem Wk.ndR{n:Nat}{W:Nat->List Nat}{A B B':List (Nat×Nat)}{R:List Nat}{cb:List (Nat×Nat)}(P:Pm n W A B)(hB:∀ g a,lk B' g=some a↔lk B g=some a)(hw:Wk n W B' (dM n A) R cb):R.Nodup:=by
 rw[hw.eq,Zbi];refine⟨ZbN Za8 ZbJ,?_,λa ha b hb e=>?_⟩
 ·have h:=hw.nd;rw[List.Nodup,Zbd] at h ⊢;refine h.imp_of_mem λ{p q} hp hq hne e=>hne ?_;cases e1:lk B' p.1 with
  |none=>exact absurd e1 (hw.pr p hp)
  |some a=>
   cases e2:lk B' q.1 with
   |none=>exact absurd e2 (hw.pr q hq)
   |some b=>
    rw[e1,e2] at e;have e:a=b:=e;subst e;have h1:=(P.iff _ _).mpr ((hB _ _).mp e1);have h2:=(P.iff _ _).mpr ((hB _ _).mp e2);rw[h1] at h2;exact Zaf h2
 ·subst e;obtain⟨p,hp,e1⟩:=Zag.mp hb;cases e2:lk B' p.1 with
  |none=>exact absurd e2 (hw.pr p hp)
  |some z=>
   rw[e2] at e1;have e1:z=a:=e1;subst e1;have h1:=(P.iff _ _).mpr ((hB _ _).mp e2);have:=(Zau.mp ha).2;rw[h1] at this;cases this
theorem DK{G:Gs}{n N:Nat}{W:Nat->List Nat}{A B:List (Nat×Nat)}{Dd:Nat->Prop}(hn:n<64)(hN:N<64)(wl:∀ i g,g∈W i->g<N)(P:Pm n W A B)(c:dH W B Dd)(hd:∀ a,a<n->lk A a=none->Dd a) :
  ∃ B' R cb,gh [wiP G n W,G.GA A]=some (.ok (.tup [.lst ((yP (R.map G.aS)).map skP),.lst ((yP (cb.map λp=>G.gS p.1)).map skP)]))/\(∀ g a,lk B' g=some a↔lk B g=some a)/\Wk n W B' (dM n A) R cb/\∀ a∈R,∀ x∈W a,x∈cb.map (·.1):=by
 have big:∀ {k:Nat},k<=9000->k<sizeLine:=λh=>Eu (by lia)
 have kl:∀ {l:List (Nat×Nat)}{k:Nat},k∈l.map (·.1)->∃ v,lk l k=some v:=λ{l k} h=>by
  cases e:lk l k with
  |none=>exact absurd h (mQ.mp e)
  |some v=>exact⟨v,rfl⟩
 have lA:A.length<=n:=jQ P.ndA λx hx=>by obtain⟨v,hv⟩:=kl hx;exact(P.ok hv).2
 obtain⟨g,R,cb,ew,he⟩:=pZ (G:=G) (B:=uo A []) (S:=dM n A) (by lia) (by have:(dM n A).length<=(List.range n).length:=ZaO _ _;rw[Zay] at this;lia) (λa ha=>by simpa[dM] using(Zau.mp ha).1) wl λg b h=>(P.ok ((P.iff _ _).mpr ((P.rev g b).mp h))).2
 have stay:∀ {R cb},Wk n W (uo A []) (dM n A) R cb->(∀ a∈R,Dd a):=λ{R cb} hw=>by
  intro a ha;obtain⟨i,hi⟩:=ZaW ha;induction i using Nat.strongRecOn generalizing a with
  |_ i ih=>
   rw[hw.eq] at hi;by_cases hl:i<(dM n A).length
   ·rw[Zak hl] at hi;have:=Zau.mp (Zah hi);exact hd a (by simpa using this.1) (by simpa using this.2)
   ·rw[Zas (by lia),Zad] at hi
    cases q:cb[i-(dM n A).length]? with
    |none=>rw[q] at hi;cases hi
    |some p=>
     rw[q] at hi;have hi:some ((lk (uo A []) p.1).getD 0)=some a:=hi;obtain⟨j,h1,h2⟩:=hw.back _ p q;have dj:=ih j (by lia) p.2 (Zah h2) h2
     obtain⟨d',e1,e2⟩:=c p.2 dj p.1 (hw.wish p (Zah q));rw[(P.rev _ _).mpr e1] at hi;cases hi;exact e2
 have hg:g=none:=by
  cases g with
  |none=>rfl
  |some g=>
   obtain⟨cb',a,i,rfl,hw,ha,hg,hk,hb⟩:=he;obtain⟨d',e1,_⟩:=c a (stay hw a (Zah ha)) g hg;rw[(P.rev _ _).mpr e1] at hb;cases hb
 subst hg;obtain⟨hw,hc⟩:=he;refine⟨uo A [],R,cb,?_,P.rev,hw,hc⟩;refine fX ?_;unfold jK;rw[show startR [wiP G n W,G.GA A] 2=[some (.sh (wiP G n W)),some (.sh (G.GA A)),none,none] from rfl];walk_at "rd"
 rw[show G.GA A=.dt (kvQ G.aK G.gv A) from rfl,Gr,ye,fQ (λp:Nat×Nat=>PV.tup [G.av p.1,G.gv p.2]) (λ_=>true) (λp=>PV.tup [G.gv p.2,G.av p.1]) A λp _=>⟨_,rfl,rfl,λ_=>eV (by walk_at "rd";exact ZaB (big (by lia)))⟩,tv_some,Zbz.mpr (λ_ _=>rfl)]
 have pa:fK (.dt []) (A.map λp=>(G.gv p.2,G.av p.1))=some (G.GD (uo A [])):=by
  have h:=yd (G:=G) A (B:=[]) (by simp) (by simp;lia)
  exact h
 refine⟨rfl,by rw[Zab];exact ZaB (big (by lia)),_,sG A,_,pa,rfl,?_⟩
 rw[show wiP G n W=.dt ((List.range n).map λ(i:Nat)=>(G.aK i,PV.lst (G.GL (W i)))) from rfl,DG,tZ,<-show wiP G n W=.dt ((List.range n).map λ(i:Nat)=>(G.aK i,PV.lst (G.GL (W i)))) from rfl];refine⟨by simp only[Gs.AL,Zab,Zay];exact ZaB (big (by lia)),?_⟩
 rw[show G.AL (List.range n)=(List.range n).map G.av from rfl,fQ G.av (λa=>(lk A a).isNone) G.av (List.range n) λa _=>⟨_,rfl,eV (by
  walk_at "rd"
  refine⟨_,G.Qj A a,?_⟩;cases lk A a<;>rfl),λ_=>eV (by walk_at "rd")⟩,tv_some,show((List.range n).filter λa=>(lk A a).isNone).map G.av=G.AL (dM n A) from rfl,ew]
 walk_at "rd"
 have hR:=hw.len;have hcb:=hw.pC wl;have hf:(dM n A).length<=(List.range n).length:=ZaO _ _;rw[Zay] at hf;have nR:R.length<=n:=by
  have:=bT (l:=R) (k:=List.range n) (Wk.ndR P P.rev hw) λx hx=>Zav.mpr (hw.lt x hx);simpa using this
 have ndR:=Wk.ndR P P.rev hw;have nm:∀ {l:List Nat}{f:Nat->Sk},l.Nodup->(∀ a b,f a=f b->a=b)->(l.map f).Nodup:=λ{l f} nd inj=>by
  rw[List.Nodup,Zbd];exact nd.imp λhne e=>hne (inj _ _ e)
 rw[show G.AL R=(R.map G.aS).map skP by rw[ZaG];rfl,Qm (nm ndR G.ia) (λp hp=>by obtain⟨a,_,rfl⟩:=Zag.mp hp;exact G.la a) (by rw[Zab];lia),tv_some]
 refine⟨rfl,?_⟩;rw[show G.GD cb=.dt (kvQ G.gK G.av cb) from rfl,W9 (ps:=cb.map λp=>G.gS p.1) (by unfold kvQ;rw[ZaG,ZaG];rfl) (by have:=nm (f:=G.gS) hw.nd G.ig;rw[ZaG] at this;exact this) (λp hp=>by obtain⟨a,_,rfl⟩:=Zag.mp hp;exact G.lg _) (by rw[Zab];lia),tv_some]
 exact⟨ZaB (big (by lia)),rfl⟩
def vM(l:List Int):List (Int×Int):=l.zip l.tail
theorem HX:∀ {l:List Int},l.Pairwise (·<·)->∀ p∈vM l,p.1<p.2/\p.1∈l/\p.2∈l/\∀ y∈l,y<=p.1\/p.2<=y
 |[],_,p,hp=>by simp[vM] at hp
 |[a],_,p,hp=>by simp[vM] at hp
 |a::b::l,pw,p,hp=>by
  have h1:=Zbu.mp pw;have hp:p∈(a,b)::vM (b::l):=hp;rcases ZaA.mp hp with e|hp
  ·subst e;refine⟨h1.1 b Zaw,Zaw,Zaq _ Zaw,λy hy=>?_⟩;rcases ZaA.mp hy with e|hy
   ·left;show y<=a;lia
   ·right
    rcases ZaA.mp hy with e|hy
    ·show b<=y;lia
    ·have:=(Zbu.mp h1.2).1 y hy;show b<=y;lia
  ·obtain⟨q1,q2,q3,q4⟩:=HX h1.2 p hp;refine⟨q1,Zaq _ q2,Zaq _ q3,λy hy=>?_⟩;rcases ZaA.mp hy with e|hy
   ·left
    have:=h1.1 p.1 q2;lia
   ·exact q4 y hy
theorem Va{x:Int}:∀ {a:Int}{l:List Int},a<x->x ∉ l->(∃ y∈l,x<y)->∃ p∈vM (a::l),p.1<x/\x<p.2
 |a,[],_,_,h=>by obtain⟨y,hy,_⟩:=h;cases hy
 |a,b::l,ha,hx,h=>by
  by_cases hb:x<b
  ·exact⟨(a,b),Zaw,ha,hb⟩
  ·have ne:x≠b:=λe=>hx (by rw[e];exact Zaw)
   obtain⟨y,hy,h2⟩:=h;have hy:y∈l:=by
    rcases ZaA.mp hy with e|hy
    ·subst e;exact absurd h2 hb
    ·exact hy
   obtain⟨p,hp,q⟩:=Va (a:=b) (l:=l) (by lia) (λz=>hx (Zaq _ z)) ⟨y,hy,h2⟩
   exact⟨p,Zaq _ hp,q⟩
def gM(q:Nat->Bool)(L:Nat):List Int:=(-1)::((((List.range L).filter q).map λ(i:Nat)=>(i:Int))++[(L:Int)])
theorem DN{q:Nat->Bool}{L:Nat}{y:Int}:y∈gM q L↔y=-1\/(∃ i:Nat,i<L/\q i=true/\y=i)\/y=L:=by
 unfold gM;simp only[ZaA,ZaK,Zag,Zau,Zav,ZbB,or_false];constructor
 ·rintro(h|⟨i,⟨h1,h2⟩,rfl⟩|h)
  ·exact .inl h
  ·exact .inr (.inl ⟨i,h1,h2,rfl⟩)
  ·exact .inr (.inr h)
 ·rintro(h|⟨i,h1,h2,rfl⟩|h)
  ·exact .inl h
  ·exact .inr (.inl ⟨i,⟨h1,h2⟩,rfl⟩)
  ·exact .inr (.inr h)
theorem HY(q:Nat->Bool)(L:Nat):(gM q L).Pairwise (·<·):=by
 unfold gM;rw[Zbu];refine⟨λy hy=>?_,?_⟩
 ·rcases ZaK.mp hy with hy|hy
  ·obtain⟨i,_,rfl⟩:=Zag.mp hy;omega
  ·simp at hy;omega
 ·rw[Zce];refine⟨?_,by simp,λa ha b hb=>?_⟩
  ·rw[Zbd];exact(List.Pairwise.sublist Za8 List.pairwise_lt_range).imp λh=>by omega
  ·obtain⟨i,hi,rfl⟩:=Zag.mp ha;have:=Zav.mp (Zau.mp hi).1;simp at hb;omega
def yf(q:Nat->Bool)(L:Nat):List (Int×Int):=((vM (gM q L)).filter λp=>decide (p.1+1<p.2)).map λp=>(p.1+1,p.2-1)
def uR(q:Nat->Bool)(L:Nat)(x:Int):Int×Int:=(λp:Int×Int=>(p.1+1,p.2-1)) (((vM (gM q L)).find? λp=>decide (p.1<x/\x<p.2)).getD (0,0))
structure DP(q:Nat->Bool)(L:Nat)(x:Int):Prop where
 x0:0<=x
 x1:x<L
 no:q x.toNat=false
section
variable{q:Nat->Bool}{L:Nat}{x y:Int}
theorem DP.X8(f:DP q L x):x ∉ gM q L:=λh=>by
 rcases DN.mp h with e|⟨i,h1,h2,e⟩|e
 ·have:=f.x0;omega
 ·have:=f.no;rw[e,ZaD,h2] at this;cases this
 ·have:=f.x1;omega
theorem DP.gap(f:DP q L x):∃ p∈vM (gM q L),p.1<x/\x<p.2/\uR q L x=(p.1+1,p.2-1):=by
 have ex:∃ p∈vM (gM q L),p.1<x/\x<p.2:=Va (by have:=f.x0;omega) (λz=>f.X8 (Zaq _ z)) ⟨(L:Int),by simp,f.x1⟩
 cases e:(vM (gM q L)).find? λp=>decide (p.1<x/\x<p.2) with
 |none=>
  obtain⟨p,h1,h2⟩:=ex;have:=List.find?_eq_none.mp e p h1;simp only[decide_eq_true_eq] at this;exact absurd h2 this
 |some p=>
  have h1:=List.find?_some e;simp only[decide_eq_true_eq] at h1;refine⟨p,List.mem_of_find?_eq_some e,h1.1,h1.2,?_⟩;unfold uR;rw[e];rfl
structure Run(q:Nat->Bool)(L:Nat)(p:Int×Int):Prop where
 a0:0<=p.1
 ab:p.1<=p.2
 b1:p.2<L
 fr:∀ y,p.1<=y->y<=p.2->DP q L y
theorem Ia{p:Int×Int}(hp:p∈vM (gM q L))(h:p.1+1<p.2):Run q L (p.1+1,p.2-1):=by
 obtain⟨h1,h2,h3,h4⟩:=HX (HY q L) p hp;have ge:∀ y∈gM q L,-1<=y/\y<=L:=λy hy=>by
  rcases DN.mp hy with e|⟨i,h1,h2,e⟩|e<;>lia
 have g2:=ge _ h2;have g3:=ge _ h3;refine⟨by show 0<=p.1+1;lia,by show p.1+1<=p.2-1;lia,by show p.2-1<L;lia,λy y1 y2=>?_⟩
 have y1:p.1+1<=y:=y1;have y2:y<=p.2-1:=y2;refine⟨by lia,by lia,?_⟩
 cases e:q y.toNat with
 |false=>rfl
 |true=>
  have:=h4 y (DN.mpr (.inr (.inl ⟨y.toNat,by lia,e,by lia⟩)))
  lia
theorem DP.run(f:DP q L x):Run q L (uR q L x)/\(uR q L x).1<=x/\x<=(uR q L x).2/\uR q L x∈yf q L:=by
 obtain⟨p,h1,h2,h3,e⟩:=f.gap;rw[e];refine⟨Ia h1 (by lia),by show p.1+1<=x;lia,by show x<=p.2-1;lia,?_⟩
 exact Zag.mpr ⟨p,Zau.mpr ⟨h1,by simp only[decide_eq_true_eq];lia⟩,rfl⟩
theorem KJ{p r:Int×Int}(hp:p∈vM (gM q L))(hr:r∈vM (gM q L))(h1:p.1<x)(h2:x<p.2)(h3:r.1<y)(h4:y<r.2)(hf:∀ z,(x<=z/\z<=y)\/(y<=z/\z<=x)->DP q L z):p=r:=by
 obtain⟨_,a2,a3,a4⟩:=HX (HY q L) p hp;obtain⟨_,b2,b3,b4⟩:=HX (HY q L) r hr;have no:∀ z∈gM q L,¬((x<=z/\z<=y)\/(y<=z/\z<=x)):=λz hz h=>(hf z h).X8 hz;have c1:=no _ a2;have c2:=no _ a3;have c3:=no _ b2;have c4:=no _ b3;have d1:=b4 _ a2;have d2:=b4 _ a3;have d3:=a4 _ b2;have d4:=a4 _ b3;exact Zc7 (by omega) (by omega)
theorem Zv{p:Int×Int}(hp:p∈yf q L)(h1:p.1<=x)(h2:x<=p.2):uR q L x=p:=by
 obtain⟨r,hr,rfl⟩:=Zag.mp hp;obtain⟨hr,hd⟩:=Zau.mp hr;simp only[decide_eq_true_eq] at hd;have h1:r.1+1<=x:=h1;have h2:x<=r.2-1:=h2;have f:DP q L x:=(Ia hr hd).fr x h1 h2;obtain⟨p,k1,k2,k3,e⟩:=f.gap;rw[e,KJ k1 hr k2 k3 (by lia:r.1<x) (by lia) λz hz=>by
  have:z=x:=by lia
  rw[this];exact f]
theorem Xa{p:Int×Int}(hp:p∈yf q L):Run q L p:=by
 obtain⟨r,hr,rfl⟩:=Zag.mp hp;obtain⟨hr,hd⟩:=Zau.mp hr;simp only[decide_eq_true_eq] at hd;exact Ia hr hd
theorem Vb(hf:∀ z,(x<=z/\z<=y)\/(y<=z/\z<=x)->DP q L z):uR q L x=uR q L y:=by
 obtain⟨p,k1,k2,k3,e⟩:=(hf x (by lia)).gap
 obtain⟨r,l1,l2,l3,e'⟩:=(hf y (by lia)).gap
 rw[e,e',KJ k1 l1 k2 k3 l2 l3 hf]
end
def oZ(w h:Int)(row:Bool):Nat:=(if row then w else h).toNat
def qOn(w:Int)(keep:Nat)(row:Bool)(l:Int):Nat->Bool:=λx=>keep.testBit (Mth.pl w.toNat (cA row l (x:Int)))
theorem Vc{l m:List Int}:M8 (l.map PV.int) (m.map PV.int)=(l.zip m).map λp=>PV.tup [.int p.1,.int p.2]:=by
 unfold M8;rw[List.zip_map,ZaG];rfl
theorem DQ{row:Bool}{l t:Int}(t0:0<=t):qM ((eG row l 0 t).map cellP)=(List.range (t+1).toNat).map λ(i:Nat)=>PV.tup [.int (i:Int),cellP (cA row l (i:Int))]:=by
 unfold eG qM;apply ZbE
 intro i;rw[Zcb,Zad,Zad,Zad];rw[show t+1-0=t+1 by omega]
 by_cases hi:i<(t+1).toNat
 ·rw[Za4 hi];simp
 ·rw[ZaR (by simpa using hi)];rfl
theorem Vd(ns:List Int)(h:ns≠[]):Bt (ns.map PV.int) (some 1) none=ns.tail.map PV.int:=by
 cases ns with
 |nil=>exact absurd rfl h
 |cons n ns=>
  unfold Bt;have e1:HT.sIx ((n::ns).map PV.int).length 0 (some 1)=1:=by
   unfold HT.sIx;simp
  have e2:HT.sIx ((n::ns).map PV.int).length ((n::ns).map PV.int).length none=ns.length+1:=by
   unfold HT.sIx;simp
  rw[e1,e2];show((ns.map PV.int).take (ns.length+1-1))=_
  rw[Nat.add_sub_cancel,List.take_of_length_le (by simp)]
  rfl
theorem KN{w h:Int}(sz:Sz w h)(keep:Nat){row:Bool}{l:Int}(l0:0<=l)(l1:l<if row then h else w) :
  gk [.tup [.int w,.int h],.int keep,.str (mO row),.int l]=some (.ok (.lst ((yf (qOn w keep row l) (oZ w h row)).map λp=>qT row l p.1 p.2))):=by
 have w0:=sz.w0;have w1:=sz.w1;have h0:=sz.h0;have h1:=sz.h1;obtain⟨L,eL,L0,L1⟩:∃ L:Int,(if row then w else h)=L/\1<=L/\L<=24:=⟨_,rfl,by split<;>lia,by split<;>lia⟩
 have eN:oZ w h row=L.toNat:=by unfold oZ;rw[eL]
 have kl:(gM (qOn w keep row l) L.toNat).length<=100:=by
  unfold gM;simp only[ZaQ,ZaC,Zab,Zcq];have:=ZaO (qOn w keep row l) (List.range L.toNat);rw[Zay] at this;lia
 refine qu (x:=gj (startR [.tup [.int w,.int h],.int keep,.str (mO row),.int l] 3)) ?_;unfold gj;rw[show startR [.tup [.int w,.int h],.int keep,.str (mO row),.int l] 3=[some (.sh (.tup [.int w,.int h])),some (.sh (.int keep)),some (.sh (.str (mO row))),some (.sh (.int l)),none,none,none] from rfl];walk_at "rd"
 rw[Gp,eL];walk_at "rd"
 rw[show PV.tup [.str (mO row),.int l,.int 0,.int (L-1)]=qT row l 0 (L-1) from rfl,yM (by lia) (by lia) (by lia)]
 walk_at "rd"
 have eLN:(L-1+1).toNat=L.toNat:=by congr 1;lia
 have le:(qM ((eG row l 0 (L-1)).map cellP)).length<=100:=by
  rw[DQ (by lia)]
  simp only[Zab,Zay];lia
 have big:∀ {k:Nat},k<=9000->k<=sizeLine:=λh=>ZaB (Eu (by lia))
 refine⟨by decide,by decide,big (by lia),?_⟩
 rw[DQ (by lia),eLN,fQ (λ(i:Nat)=>PV.tup [.int (i:Int),cellP (cA row l (i:Int))]) (qOn w keep row l) (λ(i:Nat)=>PV.int (i:Int)) (List.range L.toNat) λi hi=>?a,tv_some]
 case a=>
  have hi:i<L.toNat:=Zav.mp hi;have cl:Cell w h (cA row l (i:Int)).1 (cA row l (i:Int)).2:=by
   unfold cA;cases row with
   |true=>exact⟨by show(0:Int)<=i;lia,by have:(if true then w else h)=L:=eL;rw[Zan rfl] at this;show(i:Int)<w;lia,l0,by simpa using l1⟩
   |false=>exact⟨l0,by simpa using l1,by show(0:Int)<=i;lia,by have:(if false then w else h)=L:=eL;rw[Zam (by decide)] at this;show(i:Int)<h;lia⟩
  refine⟨_,rfl,eV ?_,λ_=>rfl⟩;walk_at "rd"
  rw[U6 sz cl];walk_at "rd"
  rfl
 have ek:PV.int (-1)::(((List.range L.toNat).filter (qOn w keep row l)).map (λ(i:Nat)=>PV.int (i:Int))++[PV.int (L-1+1)])=(gM (qOn w keep row l) L.toNat).map PV.int:=by
  unfold gM;rw[Zap,ZaJ,ZaG,show L-1+1=((L.toNat:Nat):Int) by lia]
  rfl
 have lf:((List.range L.toNat).filter (qOn w keep row l)).length<=L.toNat:=by
  have:=ZaO (qOn w keep row l) (List.range L.toNat)
  rwa [Zay] at this
 rw[ek];have ec:Bt ((gM (qOn w keep row l) L.toNat).map PV.int) (some 1) none=(gM (qOn w keep row l) L.toNat).tail.map PV.int:=by
  exact Vd _ (by unfold gM;simp)
 rw[ec,Vc];refine⟨by rw[Zab];exact big (by lia),by decide,by rw[Zab];exact big (by lia),?_,?_⟩
 ·rw[Zab];refine big ?_;rw[List.length_zip];lia
 rw[fQ (λp:Int×Int=>PV.tup [.int p.1,.int p.2]) (λp=>decide (p.1+1<p.2)) (λp=>qT row l (p.1+1) (p.2-1)) _ λp _=>⟨_,rfl,eV ?b,λ_=>eV ?c⟩,tv_some]
 case b=>walk_at "rd"
 case c=>
  walk_at "rd"
  exact⟨by decide,rfl⟩
 rw[eN];unfold yf vM;rw[ZaG];rfl
def lnOf(row:Bool)(c:Int×Int):Int:=if row then c.2 else c.1
def yQ(row:Bool)(c:Int×Int):Int:=if row then c.1 else c.2
def runC(w h:Int)(keep:Nat)(row:Bool)(c:Int×Int):Int×Int:=uR (qOn w keep row (lnOf row c)) (oZ w h row) (yQ row c)
def stS(w h:Int)(keep:Nat)(row:Bool)(c:Int×Int):Sk:=(mO row,[lnOf row c,(runC w h keep row c).1,(runC w h keep row c).2])
def ckK(c:Int×Int):List Key:=[.inl c.1,.inl c.2]
theorem Yb(row:Bool)(l x:Int):lnOf row (cA row l x)=l:=by cases row<;>rfl
theorem Yc(row:Bool)(l x:Int):yQ row (cA row l x)=x:=by cases row<;>rfl
theorem Yd(row:Bool)(c:Int×Int):cA row (lnOf row c) (yQ row c)=c:=by cases row<;>rfl
theorem Xb{c d:Int×Int}(e:ckK c=ckK d):c=d:=by
 unfold ckK at e;rw[ZbG,ZbG] at e;exact Zc7 (Zb4 e.1) (Zb4 e.2.1)
def Kn(w h:Int)(keep:Nat)(row:Bool)(d:List (List Key×PV))(c:Int×Int):Prop:=cI d (ckK c)=some (skP (stS w h keep row c))
theorem Kn.put{w h:Int}{keep:Nat}{row:Bool}{d:List (List Key×PV)}{c:Int×Int}(k:Int×Int)(h':Kn w h keep row d c):Kn w h keep row (iQ d (ckK k) (skP (stS w h keep row k))) c:=by
 unfold Kn;rw[nu];by_cases e:ckK c=ckK k
 ·rw[Zan e,Xb e]
 ·rw[Zam e];exact h'
theorem Kn.new{w h:Int}{keep:Nat}{row:Bool}{d:List (List Key×PV)}(k:Int×Int):Kn w h keep row (iQ d (ckK k) (skP (stS w h keep row k))) k:=by
 unfold Kn;rw[nu,Zan rfl]
theorem yg{w h:Int}{keep:Nat}{row:Bool}{c:Int×Int}(cl:Cell w h c.1 c.2)(no:keep.testBit (Mth.pl w.toNat c)=false):DP (qOn w keep row (lnOf row c)) (oZ w h row) (yQ row c):=by
 have c0:=cl.c0;have c1:=cl.c1;have r0:=cl.r0;have r1:=cl.r1;unfold oZ;cases row with
 |true=>
  refine⟨c0,by show c.1<_;simp;lia,?_⟩
  show keep.testBit (Mth.pl w.toNat (((c.1.toNat:Nat):Int),c.2))=false
  rw[Zbx c0];exact no
 |false=>
  refine⟨r0,by show c.2<_;simp;lia,?_⟩
  show keep.testBit (Mth.pl w.toNat (c.1,((c.2.toNat:Nat):Int)))=false
  rw[Zbx r0];exact no
theorem ln0{w h:Int}{c:Int×Int}(cl:Cell w h c.1 c.2)(row:Bool):0<=lnOf row c:=by
 cases row
 ·exact cl.c0
 ·exact cl.r0
def LbD(w h:Int)(keep:Nat)(row:Bool)(d:List (List Key×PV))(i:Nat):Prop:=∀ c:Int×Int,Cell w h c.1 c.2->keep.testBit (Mth.pl w.toNat c)=false->lnOf row c<i->Kn w h keep row d c
def LbR(w h:Int)(keep:Nat)(row:Bool)(d:List (List Key×PV))(i j:Nat):Prop:=∀ (m:Nat) p (y:Int),m<j->(yf (qOn w keep row (i:Int)) (oZ w h row))[m]?=some p->p.1<=y->y<=p.2->Kn w h keep row d (cA row i y)
inductive LbI(w h:Int)(keep:Nat)(row:Bool)(i:Nat):Rho->Prop
 |mk (d:List (List Key×PV)) (v4 v5 v6:Option Sl) (dl:d.length<=i*700) (hd:LbD w h keep row d i):LbI w h keep row i [some (.sh (.tup [.int w,.int h])),some (.sh (.int keep)),some (.sh (.str (mO row))),some (.ow (.dt d)),v4,v5,v6]
inductive LbJ(w h:Int)(keep:Nat)(row:Bool)(i j:Nat):Rho->Prop
 |mk (d:List (List Key×PV)) (v5 v6:Option Sl) (dl:d.length<=i*700+j*25) (hd:LbD w h keep row d i) (hr:LbR w h keep row d i j):LbJ w h keep row i j [some (.sh (.tup [.int w,.int h])),some (.sh (.int keep)),some (.sh (.str (mO row))),some (.ow (.dt d)),some (.sh (.int (i:Int))),v5,v6]
inductive LbK(w h:Int)(keep:Nat)(row:Bool)(i j:Nat)(p:Int×Int)(k:Nat):Rho->Prop
 |mk (d:List (List Key×PV)) (v6:Option Sl) (dl:d.length<=i*700+j*25+k) (hd:LbD w h keep row d i) (hr:LbR w h keep row d i j) (hk:∀ y:Int,p.1<=y->y<p.1+k->Kn w h keep row d (cA row i y)):LbK w h keep row i j p k [some (.sh (.tup [.int w,.int h])),some (.sh (.int keep)),some (.sh (.str (mO row))),some (.ow (.dt d)),some (.sh (.int (i:Int))),some (.sh (qT row i p.1 p.2)),v6]
theorem Ve{w h:Int}(sz:Sz w h)(keep:Nat)(row:Bool):∃ d,dw [.tup [.int w,.int h],.int keep,.str (mO row)]=some (.ok (.dt d))/\∀ c:Int×Int,Cell w h c.1 c.2->keep.testBit (Mth.pl w.toNat c)=false->Kn w h keep row d c:=by
 have w0:=sz.w0;have w1:=sz.w1;have h0:=sz.h0;have h1:=sz.h1;obtain⟨n,en,n1,n2⟩:∃ n:Int,(if row then h else w)=n/\1<=n/\n<=24:=⟨_,rfl,by split<;>lia,by split<;>lia⟩
 have L24:oZ w h row<=24:=by unfold oZ;split<;>lia
 suffices hh:∃ p,dw [.tup [.int w,.int h],.int keep,.str (mO row)]=some (.ok p)/\∃ d,p=.dt d/\∀ c:Int×Int,Cell w h c.1 c.2->keep.testBit (Mth.pl w.toNat c)=false->Kn w h keep row d c by
  obtain⟨p,e,d,rfl,q⟩:=hh;exact⟨d,e,q⟩
 refine tQ (PL λQS hQ0=>?_);unfold jO;rw[show startR [.tup [.int w,.int h],.int keep,.str (mO row)] 4=[some (.sh (.tup [.int w,.int h])),some (.sh (.int keep)),some (.sh (.str (mO row))),none,none,none,none] from rfl];walk_at "rd"
 rw[Ky,en];walk_at "rd"
 refine⟨by lia,by lia,?_⟩
 refine dU (I:=LbI w h keep row)
  (.mk [] none none none (Za7 _) λc cl _ hl=>absurd hl (by have:=ln0 cl row;lia)) ?_ ?_
 case refine_2=>
  rintro _ ⟨d,v4,v5,v6,_,hd⟩;walk_at "rd"
  unfold lW;walk_at "rd"
  refine hQ0 _ ⟨_,rfl,d,rfl,λc cl no=>hd c cl no ?_⟩;rw[jx];have:lnOf row c<n:=by rw[<-en];unfold lnOf;cases row;exact cl.c1;exact cl.r1
  lia
 rintro i x _ hx ⟨d,v4,v5,v6,dl,hd⟩;refine Km λQS hQ=>?_;obtain⟨hi,rfl⟩:=HJ hx;rw[Int.zero_add];unfold lV;walk_at "rd"
 rw[KN sz keep (by lia) (by rw[en];lia)]
 walk_at "rd"
 have rl:(yf (qOn w keep row (i:Int)) (oZ w h row)).length<=26:=by
  unfold yf vM;rw[Zab];refine ZaI (ZaO _ _) ?_;rw[List.length_zip];refine ZaI (Nat.min_le_left _ _) ?_;unfold gM;have:=ZaO (qOn w keep row (i:Int)) (List.range (oZ w h row));rw[Zay] at this;simp only[ZaQ,ZaC,Zab,Zcq];lia
 refine dU (I:=LbJ w h keep row i)
  (.mk d v5 v6 (by lia) hd λm p y hm=>absurd hm (ZbI _)) ?_ ?_
 case refine_2=>
  rintro _ ⟨d,v5,v6,dl,hd,hr⟩;rw[Zab] at dl hr;refine hQ _ (.mk d _ v5 v6 (by lia) λc cl no hl=>?_)
  by_cases e:lnOf row c<i
  ·exact hd c cl no e
  ·have e:lnOf row c=i:=by lia
   have fr:=yg (row:=row) cl no;obtain⟨_,f1,f2,f3⟩:=fr.run;obtain⟨m,hm⟩:=ZaW f3;rw[e] at hm f1 f2;have:=hr m _ (yQ row c) (Zac.mp hm).1 hm f1 f2;rw[<-e,Yd] at this;exact this
 clear hQ
 rintro j x _ hx ⟨d,v5,v6,dl,hd,hr⟩;refine Km λQS hQ=>?_;rw[Zad] at hx;cases ep:(yf (qOn w keep row (i:Int)) (oZ w h row))[j]? with
 |none=>rw[ep] at hx;cases hx
 |some p=>
  rw[ep] at hx;cases hx;have hp:=Zah ep;have pr:=Xa hp;have jl:j<26:=by have:=(Zac.mp ep).1;lia
  have a0:=pr.a0;have ab:=pr.ab;have b1:=pr.b1;unfold lU;walk_at "rd"
  rw[yM a0 ab (by lia)]
  walk_at "rd"
  refine dU (I:=LbK w h keep row i j p)
   (.mk d v6 (by lia) hd hr λy h1 h2=>by lia) ?_ ?_
  case refine_2=>
   rintro _ ⟨d,v6,dl,hd,hr,hk⟩;have lc:((eG row (i:Int) p.1 p.2).map cellP).length=(p.2+1-p.1).toNat:=by unfold eG;simp
   rw[lc] at dl hk;refine hQ _ (.mk d _ v6 (by lia) hd λm p' y hm e h1 h2=>?_)
   by_cases e':m=j
   ·subst e';rw[ep] at e;cases e;exact hk y h1 (by lia)
   ·exact hr m p' y (by lia) e h1 h2
  clear hQ
  rintro k x _ hx ⟨d,v6,dl,hd,hr,hk⟩;refine Km λQS hQ=>?_;rw[Zad] at hx;cases ec:(eG row (i:Int) p.1 p.2)[k]? with
  |none=>rw[ec] at hx;cases hx
  |some c=>
   rw[ec] at hx;cases hx;have kl:k<(p.2+1-p.1).toNat:=by have:=(Zac.mp ec).1;simpa[eG] using this
   have hc:c=cA row i (p.1+(k:Int)):=by
    unfold eG at ec;rw[Zad,Za4 kl] at ec;exact(Zaf ec).symm
   have es:qT row (i:Int) p.1 p.2=skP (stS w h keep row c):=by
    have:=Zv hp (x:=p.1+(k:Int)) (by lia) (by lia)
    unfold stS runC;rw[hc,Yb,Yc,this];rfl
   unfold lR;walk_at "rd"
   refine⟨.dt (iQ d (ckK c) (skP (stS w h keep row c))),?_,hQ _ (.mk _ _ ?_ (λc' cl no hl=>(hd c' cl no hl).put c) (λm p' y hm e h1 h2=>(hr m p' y hm e h1 h2).put c) λy h1 h2=>?_)⟩
   ·rw[es];show(if d.length<sizeLine then some (PV.dt (iQ d (ckK c) (skP (stS w h keep row c)))) else none)=_
    exact Zan (Eu (by lia))
   ·have:=pO (ckK c) (skP (stS w h keep row c)) d;lia
   ·by_cases e:y<p.1+(k:Int)
    ·exact(hk y h1 e).put c
    ·have:y=p.1+(k:Int):=by lia
     rw[this,<-hc];exact Kn.new c
def nZ(l:List Sk)(s:Sk):List Sk:=if s∈l then l else l++[s]
def ddp(xs:List Sk):List Sk:=xs.foldl nZ []
theorem Vf(xs:List Sk)(s:Sk):ddp (xs++[s])=nZ (ddp xs) s:=by
 unfold ddp;rw[List.foldl_append];rfl
theorem Ib:∀ (xs acc:List Sk),acc.Nodup->(xs.foldl nZ acc).Nodup/\(∀ s,s∈xs.foldl nZ acc↔s∈acc\/s∈xs)/\(xs.foldl nZ acc).length<=acc.length+xs.length
 |[],acc,nd=>⟨nd,λs=>by simp,by simp⟩
 |x::xs,acc,nd=>by
  have nd2:(nZ acc x).Nodup:=by
   unfold nZ;split
   ·exact nd
   ·rename_i h;rw[Zbi];exact⟨nd,by simp,λa ha b hb e=>by simp at hb;subst hb;subst e;exact h ha⟩
  have mem:∀ s,s∈nZ acc x↔s∈acc\/s=x:=λs=>by
   unfold nZ;split
   ·rename_i h;exact⟨.inl,λq=>q.elim id λe=>by rw[e];exact h⟩
   ·rw[ZaK,Zbf]
  have len:(nZ acc x).length<=acc.length+1:=by unfold nZ;split<;>simp
  obtain⟨h1,h2,h3⟩:=Ib xs (nZ acc x) nd2;refine⟨h1,λs=>?_,?_⟩
  ·show s∈xs.foldl nZ (nZ acc x)↔_
   rw[h2,mem,ZaA,or_assoc]
  ·show(xs.foldl nZ (nZ acc x)).length<=_
   rw[ZaQ];lia
theorem Nu(xs:List Sk):(ddp xs).Nodup:=(Ib xs [] ZcM).1
theorem gq{xs:List Sk}{s:Sk}:s∈ddp xs↔s∈xs:=by have:=(Ib xs [] ZcM).2.1 s;simpa[ddp] using this
theorem Qn(xs:List Sk):(ddp xs).length<=xs.length:=by have:=(Ib xs [] ZcM).2.2;simpa[ddp] using this
theorem KQ{f:Sk->PV}{s:Sk}:∀ {ks:List Sk},cI (ks.map λt=>(skK t,f t)) (skK s)=if s∈ks then some (f s) else none
 |[]=>rfl
 |t::ks=>by
  rw[Zap];unfold cI;by_cases e:t=s
  ·subst e;rw[Zan rfl,Zan Zaw]
  ·rw[Zam (λz=>e (Aq z)),KQ];by_cases h:s∈ks
   ·rw[Zan h,Zan (Zaq _ h)]
   ·rw[Zam h,Zam (λz=>h ((ZaA.mp z).resolve_left (Zbj e)))]
theorem Qo{f:Sk->PV}{s:Sk}{p:PV}:∀ {ks:List Sk},ks.Nodup->cJ (ks.map λt=>(skK t,f t)) (skK s) p=(nZ ks s).map λt=>(skK t,if t=s then p else f t)
 |[],_=>by simp[cJ,nZ]
 |t::ks,nd=>by
  rw[Zbp] at nd;have ih:=Qo (f:=f) (s:=s) (p:=p) nd.2;rw[Zap];unfold cJ;by_cases e:t=s
  ·subst e;rw[Zan rfl,show nZ (t::ks) t=t::ks from Zan Zaw,Zap,Zan rfl];congr 1
   exact Za6 λu hu=>by rw[Zam (λz=>nd.1 (by rw[<-z];exact hu))]
  ·rw[Zam (λz=>e (Aq z)),ih];have:nZ (t::ks) s=t::nZ ks s:=by
    unfold nZ;by_cases h:s∈ks
    ·rw[Zan h,Zan (Zaq _ h)]
    ·rw[Zam h,Zam (λz=>h ((ZaA.mp z).resolve_left (Zbj e)))];rfl
   rw[this,Zap,Zam e]
def nO(r c:Int×Int->Sk)(cs:List (Int×Int))(s:Sk):List PV:=(cs.filter λx=>decide (r x=s)).map λx=>skP (c x)
def nQ(r c:Int×Int->Sk)(cs:List (Int×Int)):List (List Key×PV):=(ddp (cs.map r)).map λs=>(skK s,.lst (nO r c cs s))
theorem KR{r c:Int×Int->Sk}{cs:List (Int×Int)}{s:Sk}(h:s ∉ ddp (cs.map r)):nO r c cs s=[]:=by
 unfold nO;rw[List.filter_eq_nil_iff.mpr λx hx=>?_]
 ·rfl
 ·simp only[decide_eq_true_eq];exact λe=>h (gq.mpr (Zag.mpr ⟨x,hx,e⟩))
theorem Rv{r c:Int×Int->Sk}{cs:List (Int×Int)}{s:Sk}:(cI (nQ r c cs) (skK s)).getD (.lst [])=.lst (nO r c cs s):=by
 unfold nQ;rw[KQ (f:=λs=>.lst (nO r c cs s))];by_cases h:s∈ddp (cs.map r)
 ·rw[Zan h];rfl
 ·rw[Zam h,KR h];rfl
theorem Nv{r c:Int×Int->Sk}{cs:List (Int×Int)}{x:Int×Int}:cJ (nQ r c cs) (skK (r x)) (.lst (nO r c cs (r x)++[skP (c x)]))=nQ r c (cs++[x]):=by
 unfold nQ;rw[Qo (f:=λs=>.lst (nO r c cs s)) (Nu _),ZaJ,Zap,Zcw,Vf];refine Za6 λt _=>?_;congr 1
 unfold nO;rw[ZcL,ZaJ];by_cases e:t=r x
 ·rw[Zan e,e];simp
 ·rw[Zam e];rw[show List.filter (λx=>decide (r x=t)) [x]=[] by simp[Zbj e]]
  simp
theorem Rw{i:Nat}{fk fe:Fn PV}{Z:Rho}{l:List (List Key×PV)}{s:Sk}{row:List PV}{q:PV}{QS:Out->Prop}(hl:Z[i]?=some (some (.dp (.dt l))))(len:l.length<sizeLine)(hk:fk Z=some (.ok (skP s)))(hr:(cI l (skK s)).getD (.lst [])=.lst row)
  (he:fe (Z.set i (some (.dp (.dt (cJ l (skK s) (.lst row))))))=some (.ok q))(st:q.still=true)(rl:row.length<sizeLine)(hq:QS (.nx (Z.set i (some (.dp (.dt (cJ l (skK s) (.lst (row++[q])))))))))
  : To (xn i fk fe Z) QS:=by
 refine⟨.nx _,?_,trivial,hq⟩;unfold xn;rw[show rH i Z=some (.dt l) by unfold rH;rw[hl]]
 simp only[Zan len,hk,gw];show(match gF (.str s.1::s.2.map PV.int) with
   |some k=>_
   |none=>_)=_
 rw[yN];simp only[hr,he,gw];rw[Zan ⟨st,rl⟩]
noncomputable abbrev cF(w h:Int)(away:Nat):List (Int×Int):=Mth.pick w.toNat (w.toNat*h.toNat) λi=>away.testBit i
theorem nT{w h:Int}{away:Nat}{c:Int×Int}(hc:c∈cF w h away):Cell w h c.1 c.2/\away.testBit (Mth.pl w.toNat c)=true:=by
 unfold cF Mth.pick at hc;obtain⟨i,hi,rfl⟩:=Zag.mp hc;obtain⟨h1,h2⟩:=Zau.mp hi;exact⟨Cell.of (Mth.yx (Zav.mp h1)),by rw[Mth.sX];exact h2⟩
theorem Vg{w h:Int}(sz:Sz w h)(away keep:Nat)(dis:∀ c∈cF w h away,keep.testBit (Mth.pl w.toNat c)=false) :
  kZ [.tup [.int w,.int h],.int away,.int keep]=some (.ok (.dt (nQ (stS w h keep true) (stS w h keep false) (cF w h away)))):=by
 obtain⟨d1,e1,k1⟩:=Ve sz keep true;obtain⟨d2,e2,k2⟩:=Ve sz keep false;have hn:=sz.nat;have ln:(cF w h away).length<=576:=ZaI (Mth.pD _ _ _) hn.2
 suffices hh:∃ p,kZ [.tup [.int w,.int h],.int away,.int keep]=some (.ok p)/\p=.dt (nQ (stS w h keep true) (stS w h keep false) (cF w h away)) by
  obtain⟨p,e,rfl⟩:=hh;exact e
 refine Am ?_;unfold rR;rw[show startR [.tup [.int w,.int h],.int away,.int keep] 4=[some (.sh (.tup [.int w,.int h])),some (.sh (.int away)),some (.sh (.int keep)),none,none,none,none] from rfl];walk_at "rd"
 rw[show PV.str "row"=.str (mO true) from rfl,e1];walk_at "rd"
 rw[show PV.str "column"=.str (mO false) from rfl,e2];walk_at "rd"
 refine⟨.dt [],rfl,?_⟩;rw[sy sz away];walk_at "rd"
 refine dU (I:=λi Z=>∃ v6:Option Sl,Z=[some (.sh (.tup [.int w,.int h])),some (.sh (.int away)),some (.sh (.int keep)),some (.sh (.dt d1)),some (.sh (.dt d2)),some (.dp (.dt (nQ (stS w h keep true) (stS w h keep false) ((cF w h away).take i)))),v6]) ⟨none,rfl⟩ ?_ ?_
 case refine_2=>
  rintro Z ⟨v6,rfl⟩;walk_at "rd"
  unfold uL;walk_at "rd"
  rw[Zab,ZcB]
 rintro i x Z hx ⟨v6,rfl⟩;rw[Zad] at hx;cases ec:(cF w h away)[i]? with
 |none=>rw[ec] at hx;cases hx
 |some c=>
  rw[ec] at hx;cases hx;have hc:=Zah ec;obtain⟨cl,_⟩:=nT hc;have no:=dis c hc;have il:i<(cF w h away).length:=(Zac.mp ec).1;have tl:((cF w h away).take i).length<=576:=by rw[Zck];lia
  have f1:eE (.dt d1) (cellP c)=some (some (skP (stS w h keep true c))):=Za3 some (k1 c cl no);have f2:eE (.dt d2) (cellP c)=some (some (skP (stS w h keep false c))):=Za3 some (k2 c cl no);unfold uK;refine Rw (s:=stS w h keep true c) (row:=nO (stS w h keep true) (stS w h keep false) ((cF w h away).take i) (stS w h keep true c)) (q:=skP (stS w h keep false c)) rfl (Eu ?_) (eV ?_) Rv (eV ?_) (Dz _) (Eu ?_) ?_
  ·unfold nQ;rw[Zab];have:=Qn (((cF w h away).take i).map (stS w h keep true));rw[Zab] at this;lia
  ·walk_at "rd"
   exact⟨_,f1,rfl⟩
  ·walk_at "rd"
   exact⟨_,f2,rfl⟩
  ·unfold nO;rw[Zab];have:=ZaO (λx=>decide (stS w h keep true x=stS w h keep true c)) ((cF w h away).take i);lia
  ·rw[Nv,<-take_snoc ec];exact⟨_,rfl⟩
theorem sub_len{α:Type}[DecidableEq α]:∀ {l k:List α},l.Nodup->(∀ x∈l,x∈k)->l.length<=k.length
 |[],k,_,_=>Za7 _
 |a::l,k,nd,h=>by
  have ha:a∈k:=h a Zaw;have nd':=Zbp.mp nd;have:=sub_len (l:=l) (k:=k.erase a) nd'.2 λx hx=>(Zcd (λe:x=a=>nd'.1 (by rw[<-e];exact hx))).mpr (h x (Zaq _ hx))
  rw[Zcp ha] at this;have:0<k.length:=List.length_pos_of_mem ha;simp only[ZaQ];lia
structure KOk(ks:List Sk):Prop where
 nd:ks.Nodup
 ln:∀ s∈ks,s.2.length=3
 tx:∀ s∈ks,s.1≠("":Str)
def iT(ks:List Sk)(i:Nat):Sk:=if i<ks.length then ks.getD i default else(("":Str),[(i:Int),0,0])
section
variable{ks:List Sk}
theorem qG{i:Nat}(h:i<ks.length):iT ks i∈ks:=by
 unfold iT;rw[Zan h,Zao,Zae h];exact ZbZ h
theorem Ie{i:Nat}(h:i<ks.length):ks[i]?=some (iT ks i):=by
 unfold iT;rw[Zan h,Zao,Zae h];rfl
theorem KOk.inj(k:KOk ks)(i j:Nat)(e:iT ks i=iT ks j):i=j:=by
 by_cases hi:i<ks.length
 ·by_cases hj:j<ks.length
  ·exact(Zb9 hi k.nd).mp (by rw[Ie hi,Ie hj,e])
  ·have:=k.tx _ (qG hi);rw[e] at this;unfold iT at this;rw[Zam hj] at this;exact absurd rfl this
 ·by_cases hj:j<ks.length
  ·have:=k.tx _ (qG hj);rw[<-e] at this;unfold iT at this;rw[Zam hi] at this;exact absurd rfl this
  ·unfold iT at e;rw[Zam hi,Zam hj] at e;have e:=(Prod.mk.inj e).2;rw[ZbG] at e;omega
theorem KOk.l3(k:KOk ks)(i:Nat):(iT ks i).2.length=3:=by
 by_cases hi:i<ks.length
 ·exact k.ln _ (qG hi)
 ·unfold iT;rw[Zam hi];rfl
def KY(ks:List Sk)(s:Sk):Nat:=ks.findIdx λt=>decide (t=s)
theorem yR{s:Sk}(h:s∈ks):KY ks s<ks.length/\iT ks (KY ks s)=s:=by
 have hl:KY ks s<ks.length:=List.findIdx_lt_length_of_exists ⟨s,h,by simp⟩
 refine⟨hl,?_⟩;have:=List.findIdx_getElem (w:=hl);simp only[decide_eq_true_eq] at this;unfold iT;rw[Zan hl,Zao,Zae hl];exact this
end
def Gof{ks ls:List Sk}(h1:KOk ks)(h2:KOk ls):Gs:=⟨iT ks,iT ls,h1.inj,h2.inj,h1.l3,h2.l3⟩
def Wof(r c:Int×Int->Sk)(cs:List (Int×Int))(i:Nat):List Nat:=(cs.filter λx=>decide (r x=iT (ddp (cs.map r)) i)).map λx=>KY (ddp (cs.map c)) (c x)
section
variable{r c:Int×Int->Sk}{cs:List (Int×Int)}
theorem Zw{i g:Nat}(h:g∈Wof r c cs i):g<(ddp (cs.map c)).length:=by
 obtain⟨x,hx,rfl⟩:=Zag.mp h;exact(yR (gq.mpr (Zag.mpr ⟨x,(Zau.mp hx).1,rfl⟩))).1
theorem Vh{i g:Nat}(h:g∈Wof r c cs i):∃ x∈cs,r x=iT (ddp (cs.map r)) i/\c x=iT (ddp (cs.map c)) g:=by
 obtain⟨x,hx,rfl⟩:=Zag.mp h;have h1:=Zau.mp hx;exact⟨x,h1.1,by simpa using h1.2,(yR (gq.mpr (Zag.mpr ⟨x,h1.1,rfl⟩))).2.symm⟩
theorem Zx{x:Int×Int}(h:x∈cs):KY (ddp (cs.map c)) (c x)∈Wof r c cs (KY (ddp (cs.map r)) (r x)):=by
 refine Zag.mpr ⟨x,Zau.mpr ⟨h,?_⟩,rfl⟩;simp only[decide_eq_true_eq];exact(yR (gq.mpr (Zag.mpr ⟨x,h,rfl⟩))).2.symm
theorem aaA(h1:KOk (ddp (cs.map r)))(h2:KOk (ddp (cs.map c))):PV.dt (nQ r c cs)=wiP (Gof h1 h2) (ddp (cs.map r)).length (Wof r c cs):=by
 unfold wiP nQ;congr 1
 apply ZbE
 intro i;rw[Zad,Zad];by_cases hi:i<(ddp (cs.map r)).length
 ·rw[Za4 hi,Ie hi];show some (_,_)=some (_,_)
  congr 2
  show PV.lst _=PV.lst _
  congr 1
  unfold nO Gs.GL Wof;rw[ZaG];refine Za6 λx hx=>?_;show skP (c x)=skP (iT (ddp (cs.map c)) (KY (ddp (cs.map c)) (c x)))
  rw[(yR (gq.mpr (Zag.mpr ⟨x,(Zau.mp hx).1,rfl⟩))).2]
 ·rw[ZaR (by simpa using hi),ZaR (by simpa using hi)];rfl
end
noncomputable abbrev StB:=Bool×Int×Int×Int
structure Cov(w h:Int)(away keep:Nat)(S:List StB):Prop where
 on:∀ s∈S,∀ x,s.2.2.1<=x->x<=s.2.2.2->Cell w h (cA s.1 s.2.1 x).1 (cA s.1 s.2.1 x).2/\keep.testBit (Mth.pl w.toNat (cA s.1 s.2.1 x))=false
 all:∀ c:Int×Int,Cell w h c.1 c.2->away.testBit (Mth.pl w.toNat c)=true->∃ s∈S,lnOf s.1 c=s.2.1/\s.2.2.1<=yQ s.1 c/\yQ s.1 c<=s.2.2.2
theorem Vi{w h:Int}{keep:Nat}{row:Bool}{l f t:Int}(on:∀ x,f<=x->x<=t->Cell w h (cA row l x).1 (cA row l x).2/\keep.testBit (Mth.pl w.toNat (cA row l x))=false){c d:Int×Int}
  (c1:lnOf row c=l)(c2:f<=yQ row c)(c3:yQ row c<=t)(d1:lnOf row d=l)(d2:f<=yQ row d)(d3:yQ row d<=t):stS w h keep row c=stS w h keep row d:=by
 have e:runC w h keep row c=runC w h keep row d:=by
  unfold runC;rw[c1,d1];refine Vb λz hz=>?_;obtain⟨q1,q2⟩:=on z (by lia) (by lia)
  have:=yg (row:=row) q1 q2;rw[Yb,Yc] at this;exact this
 unfold stS;rw[e,c1,d1]
theorem Vj{w h:Int}{keep:Nat}{row:Bool}{c:Int×Int}(cl:Cell w h c.1 c.2)(no:keep.testBit (Mth.pl w.toNat c)=false){x:Int}(h1:(runC w h keep row c).1<=x)(h2:x<=(runC w h keep row c).2) :
  Cell w h (cA row (lnOf row c) x).1 (cA row (lnOf row c) x).2/\keep.testBit (Mth.pl w.toNat (cA row (lnOf row c) x))=false:=by
 have fr:=((yg (row:=row) cl no).run).1.fr x h1 h2;have x0:=fr.x0;have x1:=fr.x1;have nb:=fr.no;unfold qOn at nb;rw[Zbx x0] at nb;refine⟨?_,nb⟩;unfold oZ at x1;cases row with
 |true=>exact⟨x0,by have:x<((if true=true then w else h).toNat:Int):=x1;rw[Zan rfl] at this;have:=cl.c0;have:=cl.c1;show x<w;omega,cl.r0,cl.r1⟩
 |false=>exact⟨cl.c0,cl.c1,x0,by have:x<((if false=true then w else h).toNat:Int):=x1;rw[Zam (by decide)] at this;have:=cl.r0;have:=cl.r1;show x<h;omega⟩
theorem sI(a b:Nat):Builtin.bitAnd (a:Int) (b:Int)=((a &&& b:Nat):Int):=by
 rw[bitAnd_pp (ZaU _) (ZaU _),ZaD,ZaD]
def toB(s:Sk):StB:=(decide (s.1=Str.ofString "row"),s.2.getD 0 0,s.2.getD 1 0,s.2.getD 2 0)
theorem DR(w h:Int)(keep:Nat)(row:Bool)(c:Int×Int):toB (stS w h keep row c)=(row,lnOf row c,(runC w h keep row c).1,(runC w h keep row c).2):=by
 unfold toB stS;rw[W6];rfl
theorem Ig(w h:Int)(keep:Nat)(row:Bool)(cs:List (Int×Int)):KOk (ddp (cs.map (stS w h keep row))) where
 nd:=Nu _
 ln:=λs hs=>by obtain⟨x,_,rfl⟩:=Zag.mp (gq.mp hs);rfl
 tx:=λs hs=>by
  obtain⟨x,_,rfl⟩:=Zag.mp (gq.mp hs);cases row
  ·show Str.ofString "column"≠_;decide
  ·show Str.ofString "row"≠_;decide
section
variable{w h:Int}{away keep:Nat}{A B B':List (Nat×Nat)}{R:List Nat}{cb:List (Nat×Nat)}
noncomputable abbrev ksN(w h:Int)(away keep:Nat)(row:Bool):List Sk:=ddp ((cF w h away).map (stS w h keep row))
noncomputable abbrev WN(w h:Int)(away keep:Nat):Nat->List Nat:=Wof (stS w h keep true) (stS w h keep false) (cF w h away)
def Ih(w h:Int)(away keep:Nat)(R:List Nat)(cb:List (Nat×Nat)):List Sk:=((List.range (ksN w h away keep true).length).filter λa=>!R.contains a).map (iT (ksN w h away keep true))++cb.map λp=>iT (ksN w h away keep false) p.1
theorem Ii{s:Sk}(wl:∀ p∈cb,p.1<(ksN w h away keep false).length)(hs:s∈Ih w h away keep R cb):∃ row,∃ x∈cF w h away,s=stS w h keep row x:=by
 rcases ZaK.mp hs with hs|hs
 ·obtain⟨a,ha,rfl⟩:=Zag.mp hs;obtain⟨x,hx,e⟩:=Zag.mp (gq.mp (qG (Zav.mp (Zau.mp ha).1)));exact⟨true,x,hx,e.symm⟩
 ·obtain⟨p,hp,rfl⟩:=Zag.mp hs;obtain⟨x,hx,e⟩:=Zag.mp (gq.mp (qG (wl p hp)));exact⟨false,x,hx,e.symm⟩
theorem Xc(dis:∀ c∈cF w h away,keep.testBit (Mth.pl w.toNat c)=false)(wl:∀ p∈cb,p.1<(ksN w h away keep false).length)(hc:∀ a∈R,∀ x∈WN w h away keep a,x∈cb.map (·.1)):Cov w h away keep ((Ih w h away keep R cb).map toB) where
 on:=λs hs x h1 h2=>by
  obtain⟨t,ht,rfl⟩:=Zag.mp hs;obtain⟨row,c,hcs,rfl⟩:=Ii wl ht;rw[DR] at h1 h2 ⊢;exact Vj (nT hcs).1 (dis c hcs) h1 h2
 all:=λc cl aw=>by
  have hcs:c∈cF w h away:=by
   unfold cF Mth.pick;refine Zag.mpr ⟨Mth.pl w.toNat c,Zau.mpr ⟨Zav.mpr (Mth.Oo cl.inR),aw⟩,Mth.Ft cl.inR⟩
  have no:=dis c hcs;have in1:stS w h keep true c∈ksN w h away keep true:=gq.mpr (Zag.mpr ⟨c,hcs,rfl⟩);have in2:stS w h keep false c∈ksN w h away keep false:=gq.mpr (Zag.mpr ⟨c,hcs,rfl⟩);have done:∀ row,stS w h keep row c∈Ih w h away keep R cb->∃ s∈(Ih w h away keep R cb).map toB,lnOf s.1 c=s.2.1/\s.2.2.1<=yQ s.1 c/\yQ s.1 c<=s.2.2.2:=λrow hm=>by
   obtain⟨_,f1,f2,_⟩:=(yg (row:=row) cl no).run;exact⟨_,Zag.mpr ⟨_,hm,rfl⟩,by rw[DR],by rw[DR];exact f1,by rw[DR];exact f2⟩
  obtain⟨i1,i2⟩:=yR in1;obtain⟨j1,j2⟩:=yR in2;by_cases hR:KY (ksN w h away keep true) (stS w h keep true c)∈R
  ·refine done false (ZaN _ ?_);obtain⟨p,hp,e⟩:=Zag.mp (hc _ hR _ (Zx hcs));exact Zag.mpr ⟨p,hp,by rw[e];exact j2⟩
  ·refine done true (Zbv _ (Zag.mpr ⟨_,Zau.mpr ⟨Zav.mpr i1,?_⟩,i2⟩));simpa using hR
theorem Qp{n:Nat}{W:Nat->List Nat}(hn:n=(ksN w h away keep true).length)(P:Pm n W A B)(hB:∀ g a,lk B' g=some a↔lk B g=some a)(hw:Wk n W B' (dM n A) R cb):(Ih w h away keep R cb).length=A.length:=by
 subst hn;have nd:=Wk.ndR P hB hw;have hl:=hw.len;have two:∀ (t:Nat->Bool) (l:List Nat),(l.filter t).length+(l.filter λa=>!t a).length=l.length:=λt l=>by
  induction l with
  |nil=>rfl
  |cons a l ih=>cases ht:t a<;>simp[ZbC,ht]<;>lia
 have t1:=two (λa=>R.contains a) (List.range (ksN w h away keep true).length);have t2:=two (λa=>(lk A a).isNone) (List.range (ksN w h away keep true).length);have e1:((List.range (ksN w h away keep true).length).filter λa=>R.contains a).length=R.length:=by
  refine Zc4 (bT (ZbN Za8 ZbJ) λx hx=>?_) (bT nd λx hx=>?_)
  ·simpa using(Zau.mp hx).2
  ·exact Zau.mpr ⟨Zav.mpr (hw.lt x hx),by simpa using hx⟩
 have e2:((List.range (ksN w h away keep true).length).filter λa=>!(lk A a).isNone).length=A.length:=by
  have el:(A.map (·.1)).length=A.length:=Zab _;rw[<-el];refine Zc4 (bT (ZbN Za8 ZbJ) λx hx=>?_) (bT P.ndA λx hx=>?_)
  ·have:=(Zau.mp hx).2;cases e:lk A x with
   |none=>rw[e] at this;cases this
   |some g=>exact Zag.mpr ⟨_,Dy e,rfl⟩
  ·cases e:lk A x with
   |none=>exact absurd hx (mQ.mp e)
   |some g=>exact Zau.mpr ⟨Zav.mpr (P.ok e).2,by rw[e];rfl⟩
 unfold Ih;rw[ZaC,Zab,Zab];unfold dM at hl;lia
theorem Zy(nd:(cb.map (·.1)).Nodup)(wl:∀ p∈cb,p.1<(ksN w h away keep false).length):(Ih w h away keep R cb).Nodup:=by
 unfold Ih;rw[Zbi];refine⟨?_,?_,λs hs t ht e=>?_⟩
 ·rw[List.Nodup,Zbd];exact(ZbN Za8 ZbJ).imp λhne e=>hne ((Ig w h keep true _).inj _ _ e)
 ·rw[List.Nodup,Zbd];rw[List.Nodup,Zbd] at nd;exact nd.imp λhne e=>hne ((Ig w h keep false _).inj _ _ e)
 ·obtain⟨a,ha,rfl⟩:=Zag.mp hs;obtain⟨p,hp,rfl⟩:=Zag.mp ht;obtain⟨x,hx,e1⟩:=Zag.mp (gq.mp (qG (Zav.mp (Zau.mp ha).1)));obtain⟨y,hy,e2⟩:=Zag.mp (gq.mp (qG (wl p hp)));rw[<-e1,<-e2] at e;have e:=(Prod.mk.inj e).1;exact absurd e (by decide)
end
theorem Vk{s:Sk}(h:s.2.length=3):bU (skP s) (.int 1)=some (.ok (.int (s.2.getD 0 0))):=by
 obtain⟨t,l⟩:=s
 match l,h with
 |[a,b,c],_=>rfl
theorem KZ(n:Nat):∀ (l m:List Int),eqL (eqF n) (l.map PV.int) (m.map PV.int)=some (decide (l=m))
 |[],[]=>rfl
 |[],b::m=>rfl
 |a::l,[]=>rfl
 |a::l,b::m=>by
  rw[Zap,Zap,eqL,eqF_int,KZ n l m];simp only[ZbG];by_cases h:a=b<;>simp[h]
theorem Zz(n:Nat)(p q:Sk):eqF (n+1) (skP p) (skP q)=some (decide (p=q)):=by
 show eqL (eqF n) (.str p.1::p.2.map PV.int) (.str q.1::q.2.map PV.int)=_
 rw[eqL,eqF_str,KZ];have:(p=q)↔(p.1=q.1/\p.2=q.2):=Prod.ext_iff;by_cases h:p.1=q.1<;>simp[this,h]
theorem ZC{p:Sk}{l:List Sk}:inU (skP p) (.lst (l.map skP))=some (decide (p∈l)):=HF (λa b=>Zz 30 a b) p l
theorem Ye{w h:Int}(sz:Sz w h)(w8:w<=8)(h8:h<=8){away keep:Nat}(no:∀ i,away.testBit i=true->keep.testBit i=false)(row:Bool):(ksN w h away keep row).length<64:=by
 obtain⟨w0,_,h0,_⟩:=sz;have hk:w.toNat*h.toNat<=8*8:=Zc6 (by omega) (by omega)
 have l1:=Qn ((cF w h away).map (stS w h keep row));rw[Zab] at l1;have l2:(cF w h away).length<=w.toNat*h.toNat:=Mth.pD _ _ _;by_cases lt:(cF w h away).length<64
 ·exact Zbr l1 lt
 have hw:w=8:=by
  by_cases q:w=8
  ·exact q
  ·have:w.toNat*h.toNat<=7*8:=Zc6 (by omega) (by omega)
   omega
 have hh:h=8:=by
  by_cases q:h=8
  ·exact q
  ·have:w.toNat*h.toNat<=8*7:=Zc6 (by omega) (by omega)
   omega
 subst hw hh;have all:∀ i,i<64->away.testBit i=true:=λi hi=>by
  have:(List.range 64).filter (λi=>away.testBit i)=List.range 64:=List.Sublist.eq_of_length_le Za8 (by
   have:(cF 8 8 away).length=((List.range 64).filter λi=>away.testBit i).length:=Zab _;rw[Zay];omega)
  have m:i∈(List.range 64).filter λi=>away.testBit i:=by rw[this];exact Zav.mpr hi
  exact(Zau.mp m).2
 have inC:∀ c:Int×Int,Cell 8 8 c.1 c.2->c∈cF 8 8 away:=λc cl=>Zag.mpr ⟨Mth.pl 8 c,Zau.mpr ⟨Zav.mpr (Mth.Oo cl.inR),all _ (Mth.Oo cl.inR)⟩,Mth.Ft cl.inR⟩;have cz:∀ x:Int,0<=x->x<=1->Cell 8 8 (cA row 0 x).1 (cA row 0 x).2:=λx x0 x1=>by
  cases row
  ·exact⟨by show(0:Int)<=0;omega,by show(0:Int)<8;omega,x0,by show x<8;omega⟩
  ·exact⟨x0,by show x<8;omega,by show(0:Int)<=0;omega,by show(0:Int)<8;omega⟩
 have same:stS 8 8 keep row (cA row 0 0)=stS 8 8 keep row (cA row 0 1):=Vi (l:=0) (f:=0) (t:=1) (λx x0 x1=>⟨cz x x0 x1,no _ (all _ (Mth.Oo (cz x x0 x1).inR))⟩) (by cases row<;>rfl) (by cases row<;>decide) (by cases row<;>decide) (by cases row<;>rfl) (by cases row<;>decide) (by cases row<;>decide)
 have ne:cA row 0 1≠cA row 0 0:=by cases row<;>decide
 have m0:=inC _ (cz 0 (by decide) (by decide))
 have sub:=sub_len (k:=((cF 8 8 away).erase (cA row 0 0)).map (stS 8 8 keep row)) (Nu ((cF 8 8 away).map (stS 8 8 keep row))) λs hs=>by
  obtain⟨x,hx,rfl⟩:=Zag.mp (gq.mp hs);by_cases e:x=cA row 0 0
  ·subst e;exact Zag.mpr ⟨cA row 0 1,(Zcd ne).mpr (inC _ (cz 1 (by decide) (by decide))),same.symm⟩
  ·exact Zag.mpr ⟨x,(Zcd e).mpr hx,rfl⟩
 rw[Zab,Zcp m0] at sub;have l2:(cF 8 8 away).length<=64:=l2;show(ddp _).length<64
 omega
theorem Vl{w h:Int}(sz:Sz w h)(w8:w<=8)(h8:h<=8){away keep:Nat}(none_:away &&& keep=0) :
  ∃ (S:List Sk) (T:List PV),iz [.tup [.int w,.int h],.int away,.int keep]=some (.ok (.tup [.lst (S.map skP),.lst T]))/\Cov w h away keep (S.map toB)/\S.length<64/\∀ s∈S,∃ row,∃ x∈cF w h away,s=stS w h keep row x:=by
 have bits:∀ i,away.testBit i=true->keep.testBit i=false:=λi hi=>by
  have:=Za3 (λn=>n.testBit i) none_;simp only[Zcu,hi,Bool.true_and,Nat.zero_testBit] at this;exact this
 have dis:∀ c∈cF w h away,keep.testBit (Mth.pl w.toNat c)=false:=λc hc=>bits _ (nT hc).2;have k1:=Ig w h keep true (cF w h away);have k2:=Ig w h keep false (cF w h away);have n1:=Ye sz w8 h8 bits true;have n2:=Ye sz w8 h8 bits false;have wl:∀ i g,g∈WN w h away keep i->g<(ksN w h away keep false).length:=λi g hg=>Zw hg;obtain⟨A,B,eM,P,Dd,cD,hd⟩:=HW (G:=Gof k1 k2) (n:=(ksN w h away keep true).length) (N:=(ksN w h away keep false).length) (W:=WN w h away keep) (by omega) (by omega) wl
 obtain⟨B',R,cb,eS,hB,hw,hc⟩:=DK (G:=Gof k1 k2) (n:=(ksN w h away keep true).length) (N:=(ksN w h away keep false).length) (W:=WN w h away keep) (by omega) (by omega) wl P cD hd
 have wlc:∀ p∈cb,p.1<(ksN w h away keep false).length:=λp hp=>wl _ _ (hw.wish p hp);have lc:cb.length<64:=Zbr (hw.pC wl) n2;have eX:=Vg sz away keep dis;rw[aaA k1 k2] at eX
 let ps:List (Int×Int):=A.map λp=>((iT (ksN w h away keep false) p.2).2.getD 0 0,(iT (ksN w h away keep true) p.1).2.getD 0 0)
 have hps:∀ c∈ps,Cell w h c.1 c.2:=λc hc=>by
  obtain⟨p,hp,rfl⟩:=Zag.mp hc;obtain⟨x,hx,e1,e2⟩:=Vh (P.ok (zO P.ndA (show(p.1,p.2)∈A from hp))).1;rw[<-e1,<-e2];exact(nT hx).1
 let S0:List Sk:=((List.range (ksN w h away keep true).length).filter λa=>!R.contains a).map (iT (ksN w h away keep true))++yP (cb.map λp=>iT (ksN w h away keep false) p.1)
 have pS:S0.Perm (Ih w h away keep R cb):=Zcz _ (t6 _);have lA:A.length<64:=Zbr (jQ P.ndA λx hx=>by
  obtain⟨p,hp,rfl⟩:=Zag.mp hx;exact(P.ok (zO P.ndA (show(p.1,p.2)∈A from hp))).2) n1
 have pm:=(t6 S0).trans pS;refine⟨yP S0,(cF w h (Mth.zV w.toNat ps)).map cellP,?_,?_,by rw[pm.length_eq,Qp rfl P hB hw];exact lA,λs hs=>Ii wlc (pm.mem_iff.mp hs)⟩
 rotate_left
 ·have:=Xc dis wlc hc;have pm:=pm.map toB;exact⟨λs hs=>this.on s (pm.mem_iff.mp hs),λc cl aw=>by obtain⟨s,hs,q⟩:=this.all c cl aw;exact⟨s,pm.mem_iff.mpr hs,q⟩⟩
 refine fX (x:=iy (startR [.tup [.int w,.int h],.int away,.int keep] 6)) ?_;unfold iy;rw[show startR [.tup [.int w,.int h],.int away,.int keep] 6=[some (.sh (.tup [.int w,.int h])),some (.sh (.int away)),some (.sh (.int keep)),none,none,none,none,none,none] from rfl];walk_at "rd"
 have eN:cF w h 0=[]:=by
  unfold cF Mth.pick;rw[List.filter_eq_nil_iff.mpr λi _=>by simp]
  rfl
 rw[sI,none_,sy sz 0,show Mth.pick w.toNat (w.toNat*h.toNat) (λi=>(0:Nat).testBit i)=[] from eN];walk_at "rd"
 rw[Zam (by simp)]
 unfold nG;walk_at "rd"
 rw[eX];walk_at "rd"
 rw[eM];walk_at "rd"
 rw[eS];walk_at "rd"
 rw[show wiP (Gof k1 k2) (ksN w h away keep true).length (WN w h away keep)=.dt ((List.range (ksN w h away keep true).length).map λ(i:Nat)=>((Gof k1 k2).aK i,PV.lst ((Gof k1 k2).GL (WN w h away keep i)))) from rfl,DG,tZ];have big:∀ {k:Nat},k<=9000->k<=sizeLine:=λh=>ZaB (Eu (by omega))
 refine⟨rfl,by unfold Gs.AL;rw[Zab,Zay];exact big (by omega),?_⟩
 rw[show(Gof k1 k2).AL (List.range (ksN w h away keep true).length)=(List.range (ksN w h away keep true).length).map (Gof k1 k2).av from rfl,fQ (Gof k1 k2).av (λa=>!R.contains a) (Gof k1 k2).av (List.range (ksN w h away keep true).length) λa _=>⟨_,rfl,eV ?t1,λ_=>rfl⟩,tv_some]
 case t1=>
  walk_at "rd"
  refine⟨_,ZC,?_⟩;have:iT (ksN w h away keep true) a∈yP (R.map (Gof k1 k2).aS)↔a∈R:=by
   rw[(t6 _).mem_iff];constructor
   ·intro hm;obtain⟨b,hb,e⟩:=Zag.mp hm;rw[<-k1.inj b a e];exact hb
   ·exact λhm=>Zag.mpr ⟨a,hm,rfl⟩
  show(!decide (iT (ksN w h away keep true) a∈yP (R.map (Gof k1 k2).aS)))=_
  by_cases hm:a∈R
  ·rw[ZaF (this.mpr hm),Zbh.mpr hm]
  ·rw[ZaM (λz=>hm (this.mp z))];have:R.contains a=false:=by simpa using hm
   rw[this]
 have ls:(yP (cb.map λp=>(Gof k1 k2).gS p.1)).length=cb.length:=by rw[(t6 _).length_eq,Zab]
 have lf:((List.range (ksN w h away keep true).length).filter λa=>!R.contains a).length<64:=Zbr (ZaO _ _) (by rw[Zay];exact n1)
 refine⟨by rw[Zab,Zab,ls];exact big (by omega),rfl,?_⟩
 rw[show(Gof k1 k2).GA A=.dt (kvQ (Gof k1 k2).aK (Gof k1 k2).gv A) from rfl,Gr,ye];refine⟨by rw[Zab];exact big (by omega),?_⟩
 rw[fQ (λp:Nat×Nat=>PV.tup [(Gof k1 k2).av p.1,(Gof k1 k2).gv p.2]) (λ_=>true) (λp=>cellP ((iT (ksN w h away keep false) p.2).2.getD 0 0,(iT (ksN w h away keep true) p.1).2.getD 0 0)) A λp _=>⟨_,rfl,rfl,λ_=>eV ?t2⟩,tv_some]
 case t2=>
  walk_at "rd"
  rw[show(Gof k1 k2).gv p.2=skP (iT (ksN w h away keep false) p.2) from rfl,Vk (k2.l3 _),tv_some,show(Gof k1 k2).av p.1=skP (iT (ksN w h away keep true) p.1) from rfl,Vk (k1.l3 _),tv_some];exact⟨by decide,rfl⟩
 rw[Zbz.mpr λ_ _=>rfl,show(A.map λp=>cellP ((iT (ksN w h away keep false) p.2).2.getD 0 0,(iT (ksN w h away keep true) p.1).2.getD 0 0))=ps.map cellP by simp only[ps,ZaG];rfl,Gn sz ps hps]
 walk_at "rd"
 have nS:S0.Nodup:=pS.nodup_iff.mpr (Zy hw.nd wlc);have mS:∀ s∈S0,s.2.length=3:=λs hs=>by obtain⟨row,x,_,rfl⟩:=Ii wlc (pS.mem_iff.mp hs);rfl
 rw[show List.map (Gof k1 k2).av (List.filter (λa=>!R.contains a) (List.range (ksN w h away keep true).length))++List.map skP (yP (List.map (λp=>(Gof k1 k2).gS p.fst) cb))=S0.map skP by simp only[S0,ZaJ,ZaG];rfl,Qm nS mS (by rw[pS.length_eq,Qp rfl P hB hw];exact lA),tv_some,sy sz]
 walk_at "rd"
 first
  |exact⟨by decide,rfl⟩
  |decide
theorem yS(ns:List Int)(k:Nat)(hk:k<=3000):∃ n:Int,dJ [.lst (ns.map .int),.int k]=some (.ok (.int n)):=by
 suffices h:∃ p,dJ [.lst (ns.map .int),.int k]=some (.ok p)/\∃ n,p=.int n by
  obtain⟨p,e,n,rfl⟩:=h;exact⟨n,e⟩
 refine HD ?_;unfold rZ;walk_at "rd"
 rw[Zab];refine yw (λh=>?_) (λh=>?_)
 ·unfold uM;walk_at "rd"
  exact⟨_,Gk (by lia) h,_,rfl⟩
 ·unfold uO;have kk:(k:Int)*k<=3000*3000:=ZcQ (by lia) (by lia) (by lia) (by decide)
  have kk0:0<=(k:Int)*k:=Zc5 (by lia) (by lia)
  walk_at "rd"
  rw[Zab];refine⟨.inl ⟨by lia,by lia⟩,yw (λh0=>?_) (λh0=>?_)⟩
  ·unfold uN;walk_at "rd"
   rw[Zab];refine⟨.inl ⟨by lia,by lia⟩,by lia,_,Gk (Zbb _ (by lia)) (ZaX _ (by lia)),?_⟩
   walk_at "rd"
   generalize hq:ns.getD ((k:Int)*7%ns.length).toNat 0%2147483629=q
   have q0:0<=q:=by rw[<-hq];exact Zbb _ (by decide)
   have q1:q<2147483629:=by rw[<-hq];exact ZaX _ (by decide)
   unfold pB;walk_at "rd"
   exact⟨by decide,.inl ⟨by lia,by lia⟩,by decide,_,rfl⟩
  ·unfold pB;walk_at "rd"
   exact⟨.inl ⟨by lia,by lia⟩,by decide,_,rfl⟩
theorem jt(c:Int)(k:Nat)(hk:k<=3000):∃ n:Int,bJ [.int c,.int k]=some (.ok (.int n))/\0<=n/\n<2147483648:=by
 suffices h:∃ p,bJ [.int c,.int k]=some (.ok p)/\∃ n,p=.int n/\0<=n/\n<2147483648 by
  obtain⟨p,e,n,rfl,h⟩:=h;exact⟨n,e,h⟩
 refine HD ?_;unfold qD;walk_at "rd"
 refine⟨by decide,by decide,by decide,yw (λh=>?_) (λh=>?_)⟩
 ·unfold sr;walk_at "rd"
  have c0:0<=c/2^(31*(k:Int)).toNat:=Int.ediv_nonneg (Int.le_trans (by decide) h) (Int.le_of_lt (Int.pow_pos (by decide)))
  rw[bitAnd_pp c0 (by decide)]
  refine⟨.inl ⟨by decide,by decide⟩,by omega,ZaU _,?_⟩
  have:=@Nat.and_le_right (c/2^(31*(k:Int)).toNat).toNat (2147483647:Int).toNat;have e:(2147483647:Int).toNat=2147483647:=rfl;rw[e] at this ⊢;omega
 ·unfold su;have k1:7919*(k:Int)*k<=23757000*3000:=ZcQ (by omega) (by omega) (by omega) (by decide)
  have k0:0<=7919*(k:Int)*k:=Zc5 (by omega) (by omega)
  have m0:0<=c%2147483629:=Zbb _ (by decide)
  have m1:c%2147483629<2147483629:=ZaX _ (by decide)
  walk_at "rd"
  generalize hq:(c%2147483629+7919*(k:Int)*k+k+13)*48271%2147483587=q
  have q0:0<=q:=by rw[<-hq];exact Zbb _ (by decide)
  have q1:q<2147483587:=by rw[<-hq];exact ZaX _ (by decide)
  generalize hz:q*q%2147483629=z
  have z0:0<=z:=by rw[<-hz];exact Zbb _ (by decide)
  have z1:z<2147483629:=by rw[<-hz];exact ZaX _ (by decide)
  refine⟨by decide,.inl ⟨by decide,by decide⟩,.inl ⟨by omega,by omega⟩,.inl ⟨by omega,by omega⟩,by decide,.inl ⟨by omega,by omega⟩,by decide,.inl ⟨by omega,by omega⟩,by decide,Zbb _ (by decide),?_⟩
  have:=ZaX ((z+(k:Int))*69621) (b:=2147483563) (by decide)
  omega
theorem Vm{w h:Int}(sz:Sz w h)(c:Int)(k:Nat)(hk:k<=90):∃ n:Nat,nH [.tup [.int w,.int h],.int c,.int k]=some (.ok (.int n))/\n<2^(w.toNat*h.toNat):=by
 suffices hh:∃ p,nH [.tup [.int w,.int h],.int c,.int k]=some (.ok p)/\∃ n:Nat,p=.int n/\n<2^(w.toNat*h.toNat) by
  obtain⟨p,e,n,rfl,q⟩:=hh;exact⟨n,e,q⟩
 have hm:=sz.mul;have hN:=sz.nat;have w0:=sz.w0;have w1:=sz.w1;have h0:=sz.h0;have h1:=sz.h1;refine HD (x:=qF (startR [.tup [.int w,.int h],.int c,.int k] 4)) ?_;unfold qF;rw[show startR [.tup [.int w,.int h],.int c,.int k] 4=[some (.sh (.tup [.int w,.int h])),some (.sh (.int c)),some (.sh (.int k)),none,none,none,none] from rfl];walk_at "rd"
 refine⟨.inl ⟨by lia,by lia⟩,by decide,by decide,by lia,by lia,?_⟩
 have np:((1:Int)*2^(w*h).toNat)=((2^(w.toNat*h.toNat):Nat):Int):=by rw[hN.1];simp
 refine dU (I:=λi Z=>∃ (n:Int) (v5:Option Sl),Z=[some (.sh (.tup [.int w,.int h])),some (.sh (.int c)),some (.sh (.int k)),some (.sh (.int (w*h))),some (.sh (.int n)),v5,none]/\0<=n) ⟨0,none,rfl,by decide⟩ ?_ ?_
 ·rintro i x Z hx ⟨n,v5,rfl,n0⟩;obtain⟨hi,rfl⟩:=HJ hx;have hi2:i<=20:=by lia
  obtain⟨q,eq,q0,q1⟩:=jt c (30*k+i) (by lia)
  unfold xU;walk_at "rd"
  rw[show(30*(k:Int)+(0+(i:Int)))=((30*k+i:Nat):Int) by push_cast;lia,eq]
  walk_at "rd"
  exact⟨.inr ⟨by decide,by decide⟩,.inl ⟨by decide,by decide⟩,_,_,rfl,by lia⟩
 ·rintro Z ⟨n,v5,rfl,n0⟩;obtain⟨q,eq,q0,q1⟩:=jt c (30*k+29) (by lia)
  walk_at "rd"
  unfold xZ;walk_at "rd"
  have pp:(0:Int)<1*2^(w*h).toNat:=by rw[np];exact Int.natCast_pos.mpr (ZcH _)
  refine⟨by lia,by lia,by decide,pp,.inl ⟨by decide,by decide⟩,?_⟩
  rw[show(30*(k:Int)+29)=((30*k+29:Nat):Int) by push_cast;lia,eq]
  walk_at "rd"
  have m0:=Zbb n (Int.ne_of_gt pp);have m1:=ZaX n pp;refine⟨by decide,yw (λ_=>?_) (λ_=>?_)⟩
  ·unfold xV;walk_at "rd"
   refine⟨by lia,by lia,by decide,2^(w.toNat*h.toNat)-1,?_,by have:=ZcH (w.toNat*h.toNat);lia⟩
   rw[np];have:=ZcH (w.toNat*h.toNat);congr 1
   lia
  ·unfold xY;walk_at "rd"
   refine yw (λ_=>?_) (λ_=>?_)
   ·unfold xW;walk_at "rd"
    exact⟨0,rfl,ZcH _⟩
   ·unfold xX;walk_at "rd"
    refine⟨(n%(1*2^(w*h).toNat)).toNat,by rw[Zbx m0],?_⟩
    rw[np] at m1 m0 ⊢;lia
theorem Vn(a:Nat):∀ b:Nat,a+b=(a ^^^ b)+2*(a &&& b):=by
 induction a using Nat.strongRecOn with
 |_ a ih=>
  intro b;by_cases h:a=0
  ·subst h;simp
  ·have this:=ih (a/2) (by omega) (b/2)
   have e1:(a ^^^ b)/2=(a/2) ^^^ (b/2):=Nat.xor_div_two;have e2:(a &&& b)/2=(a/2) &&& (b/2):=Nat.and_div_two;have t1:=Nat.testBit_xor a b 0;have t2:=Zcu a b 0;rw[<-e1,<-e2] at this;simp only[Nat.testBit_zero] at t1 t2;generalize a ^^^ b=x at *
   generalize a &&& b=y at *
   rcases ZcK a with p|p<;>rcases ZcK b with q|q<;>rw[p,q] at t1 t2<;>simp at t1 t2<;>omega
def Ew(n m:Nat):Nat:=n ^^^ (n &&& m)
theorem Ar(n m p:Nat):(Ew n m).testBit p=(n.testBit p&&!m.testBit p):=by
 unfold Ew;rw[Nat.testBit_xor,Zcu];cases n.testBit p<;>cases m.testBit p<;>rfl
theorem K1(n m:Nat):Builtin.bitAnd (n:Int) (Builtin.bitNot (m:Int))=((Ew n m:Nat):Int):=by
 have hn:¬(0:Int)<=Builtin.bitNot (m:Int):=by unfold Builtin.bitNot;omega
 have e:Builtin.bitAnd (n:Int) (Builtin.bitNot (m:Int))=(n:Int)-((n &&& m:Nat):Int):=by
  unfold Builtin.bitAnd;rw[ZaF (ZaU n),ZaM hn,bitNot_bitNot,ZaD,ZaD]
 rw[e];have:=Vn n (n &&& m);rw[<-Nat.and_assoc,Nat.and_self] at this;unfold Ew;omega
def jd(w h:Int):Nat:=2^(w.toNat*h.toNat)-1
theorem yU{w h:Int}(sz:Sz w h):pP [.tup [.int w,.int h]]=some (.ok (.int (jd w h:Nat))):=by
 have hm:=sz.mul;refine fX (x:=xF (startR [.tup [.int w,.int h]] 0)) ?_;unfold xF;walk_at "rd"
 refine⟨.inl ⟨by have:=sz.w0;have:=sz.w1;omega,by have:=sz.w0;have:=sz.w1;omega⟩,by omega,by omega,by decide,?_⟩
 unfold jd;rw[sz.nat.1];have:0<2^(w*h).toNat:=ZcW (by decide)
 rw[Int.one_mul,show((2:Int)^(w*h).toNat)=((2^(w*h).toNat:Nat):Int) by norm_cast]
 congr 1
 omega
inductive Dd where
 |cut (b:Int) (row:Bool) (l f t:Int)
 |prt (b i:Int)
def Dd.p:Dd->PV
 |.cut b row l f t=>.tup [.str (Str.ofString "cut"),.int b,qT row l f t]
 |.prt b i=>.tup [.str (Str.ofString "print"),.int b,.int i]
def Dd.ok(w h:Int):Dd->Prop
 |.cut b row l f t=>0<=b/\On w h row l f t
 |.prt b i=>0<=b/\0<=i
def Dd.Vo:Dd->Bool
 |.cut ..=>true
 |.prt ..=>false
def Dd.block:Dd->Int
 |.cut b ..=>b
 |.prt b _=>b
def Dd.aaB:Dd->Option Int
 |.cut ..=>none
 |.prt _ i=>some i
def sJ(l:List Dd):List Int:=l.filterMap Dd.aaB
theorem DW(i:Int):lq [.int i]=some (.ok (.bl (decide (0<=i)))):=by
 refine fX (x:=oO (startR [.int i] 0)) ?_;unfold oO;walk_at "rd"
 rw[Qh];walk_at "rd"
theorem Ny{w h:Int}{d:Dd}(o:d.ok w h):tW [.tup [.int w,.int h],d.p]=some (.ok (.bl true)):=by
 refine fX (x:=pY (startR [.tup [.int w,.int h],d.p] 0)) ?_;cases d with
 |cut b row l f t=>
  obtain⟨b0,o⟩:=o;unfold pY Dd.p;walk_at "rd"
  rw[Zam (by decide)]
  unfold rW;walk_at "rd"
  rw[DW,ZaF b0];walk_at "rd"
  unfold rT zK;walk_at "rd"
  rw[W7 o.ft];walk_at "rd"
  exact⟨o.l0,o.l1,o.f0,o.t1⟩
 |prt b i=>
  obtain⟨b0,i0⟩:=o;unfold pY Dd.p;walk_at "rd"
  rw[Zam (by decide)]
  unfold rW;walk_at "rd"
  rw[DW,ZaF b0];walk_at "rd"
  unfold rT zL;walk_at "rd"
  rw[DW,ZaF i0];walk_at "rd"
  rw[Zam (by decide +kernel)]
  trivial
def Vp(w:Int)(W:Int->Nat):Dd->Int->Nat
 |.cut b row l f t,c=>if c=b then Ew (W b) (Mth.zV w.toNat (eG row l f t)) else W c
 |.prt ..,c=>W c
def wd(w:Int):(Int->Nat)->List Dd->Int->Nat
 |W,[]=>W
 |W,d::l=>wd w (Vp w W d) l
def pr(w:Int):(Int->Nat)->List Dd->List (Int×Nat)
 |_,[]=>[]
 |W,.cut b row l f t::r=>pr w (Vp w W (.cut b row l f t)) r
 |W,.prt b i::r=>(i,W b)::pr w W r
def yh(x:Int×Nat):PV:=.tup [.int x.1,.int (x.2:Nat)]
theorem yV(w:Int):∀ (l m:List Dd) (W:Int->Nat),wd w W (l++m)=wd w (wd w W l) m
 |[],_,_=>rfl
 |d::l,m,W=>yV w l m _
theorem yW(w:Int):∀ (l m:List Dd) (W:Int->Nat),pr w W (l++m)=pr w W l++pr w (wd w W l) m
 |[],_,_=>rfl
 |.cut ..::l,m,W=>yW w l m _
 |.prt b i::l,m,W=>Za3 ((i,W b)::·) (yW w l m W)
theorem yj(w:Int):∀ (l:List Dd) (W:Int->Nat),(pr w W l).map Prod.fst=sJ l
 |[],_=>rfl
 |.cut ..::l,W=>yj w l _
 |.prt b i::l,W=>by show i::_=i::_;rw[yj w l W];rfl
theorem Xd(ps:List (Int×Nat))(i:Int)(h:∀ x∈ps,x.1<i):mL [.lst (ps.map yh),.int i,.non]=some (.ok (.bl true)):=by
 refine fX (x:=mK (startR [.lst (ps.map yh),.int i,.non] 0)) ?_;unfold mK;walk_at "rd"
 unfold rY;walk_at "rd"
 try rw[Zam (show ¬PV.non.ux=false by decide)]
 rcases List.eq_nil_or_concat ps with rfl|⟨qs,x,rfl⟩
 ·rw[Zan (by rfl)];trivial
 ·rw[Zam (by simp;omega),List.concat_eq_append,ZaJ]
  show ∃ p,atI (qs.map yh++[yh x]) (-1)=some p/\_
  refine⟨yh x,Su _ _,?_⟩;unfold yh;walk_at "rd"
  exact h x (by simp)
def RI(w h:Int)(L:List PV)(l:List Dd)(i:Nat)(Z:Rho):Prop:=
 ∃ (kv:List (Key×PV)) (v5 v6 v7:Option Sl),Z=[some (.sh (.tup [.int w,.int h])),some (.sh (.lst L)),some (.sh .non),some (.ow (.dk kv)),some (.ow (.lst ((pr w (λ_=>jd w h) (l.take i)).map yh))),v5,v6,v7]/\kv.length<=i/\∀ b:Int,(cI kv (.inl b)).getD (.int (jd w h:Nat))=.int (wd w (λ_=>jd w h) (l.take i) b:Nat)
theorem RI.zero{w h:Int}{L:List PV}{l:List Dd}:RI w h L l 0 [some (.sh (.tup [.int w,.int h])),some (.sh (.lst L)),some (.sh .non),some (.ow (.dk [])),some (.ow (.lst [])),none,none,none]:=⟨[],none,none,none,rfl,Zal _,λb=>rfl⟩
theorem Vq{w h:Int}(sz:Sz w h){L:List PV}{plan:List Dd}(hl:plan.length<=1000)(hd:∀ d∈plan,d.ok w h)(hi:(sJ plan).Pairwise (·<·)){QS:Out->Prop}{i:Nat}{d:Dd}{Z:Rho}(ed:plan[i]?=some d)(hρ:RI w h L plan i Z) :
  To (jP ((Z.set 5 (some (.sh (.int i)))).set 6 (some (.sh d.p)))) (turn (RI w h L plan (i+1)) QS):=by
 obtain⟨kv,v5,v6,v7,rfl,hk,hv⟩:=hρ;unfold RI;have il:i<plan.length:=(Zac.mp ed).1;have dk:=hd d (Zah ed);have tk:plan.take (i+1)=plan.take i++[d]:=take_snoc ed;rw[tk];have pl:(pr w (λ_=>jd w h) (plan.take i)).length<=i:=by
  rw[<-Zab (f:=Prod.fst),yj];refine ZaI (List.length_filterMap_le _ _) ?_;rw[Zck];omega
 unfold jP;walk_at "rd"
 rw[Ny dk];walk_at "rd"
 unfold oW;cases d with
 |cut b row l f t=>
  rw[show(Dd.cut b row l f t).p=.tup [.str (Str.ofString "cut"),.int b,qT row l f t] from rfl];walk_at "rd"
  rw[yU sz];walk_at "rd"
  rw[hv b];unfold oR;walk_at "rd"
  rw[HQ sz dk.2];walk_at "rd"
  rw[K1];have epr:pr w (λ_=>jd w h) (plan.take i++[.cut b row l f t])=pr w (λ_=>jd w h) (plan.take i):=by rw[yW];exact Za1 _
  rw[epr];refine⟨_,by rw[vG,Zan (bI (by omega))],iQ kv (.inl b) _,_,_,_,rfl,ZaI (pO _ _ kv) (by omega),λc=>?_⟩
  ·rw[nu,yV];show _=PV.int ((if c=b then Ew _ _ else _:Nat):Int)
   by_cases q:c=b
   ·subst q;rw[Zan rfl,Zan rfl];rfl
   ·rw[Zam (by intro z;cases z;exact q rfl),Zam q];exact hv c
 |prt b j=>
  rw[show(Dd.prt b j).p=.tup [.str (Str.ofString "print"),.int b,.int j] from rfl];walk_at "rd"
  rw[yU sz];walk_at "rd"
  rw[Zam (by decide +kernel),hv b]
  unfold oV;walk_at "rd"
  rw[Xd _ _ ?_]
  ·walk_at "rd"
   unfold oU;walk_at "rd"
   refine⟨rfl,by decide,by rw[Zab];exact bI (by omega),kv,some (.sh (.int i)),some (.sh (.tup [.str (Str.ofString "print"),.int b,.int j])),some (.sh (.int (wd w (λ_=>jd w h) (plan.take i) b:Nat))),?_,by omega,λc=>?_⟩
   ·rw[yW,ZaJ];rfl
   ·rw[yV];exact hv c
  ·intro x hx;have hp:(sJ (plan.take (i+1))).Pairwise (·<·):=hi.sublist (List.Sublist.filterMap _ (List.take_sublist _ _));rw[tk] at hp;unfold sJ at hp;rw[List.filterMap_append] at hp;refine(Zce.mp hp).2.2 x.1 ?_ j (by simp[Dd.aaB])
   have:=yj w (plan.take i) (λ_=>jd w h);unfold sJ at this;rw[<-this];exact List.mem_map_of_mem hx
theorem Xe{w h:Int}(sz:Sz w h)(plan:List Dd)(hl:plan.length<=1000)(hd:∀ d∈plan,d.ok w h)(hi:(sJ plan).Pairwise (·<·)) :
  jk [.tup [.int w,.int h],.lst (plan.map Dd.p),.non]=some (.ok (.lst ((pr w (λ_=>jd w h) plan).map yh))):=by
 refine qu (x:=jj (startR [.tup [.int w,.int h],.lst (plan.map Dd.p),.non] 5)) ?_;unfold jj
 walk_at "rd"
 refine De (RI w h (plan.map Dd.p) plan) RI.zero ?_ ?_
 ·intro i x Z hx hρ;rw[Zad] at hx;cases ed:plan[i]? with
  |none=>rw[ed] at hx;cases hx
  |some d=>
   rw[ed] at hx;cases hx;exact Vq sz hl hd hi ed hρ
 ·rintro Z ⟨kv,v5,v6,v7,rfl,hk,hv⟩;rw[Zab,ZcB];unfold oX;walk_at "rd"
theorem ZD{w h:Int}(sz:Sz w h)(plan:List Dd)(hl:plan.length<=1000)(hd:∀ d∈plan,d.ok w h)(hi:(sJ plan).Pairwise (·<·)) :
  qC [.tup [.int w,.int h],.lst (plan.map Dd.p)]=some (.ok (.lst ((pr w (λ_=>jd w h) plan).map yh))):=by
 refine qu (x:=qz (startR [.tup [.int w,.int h],.lst (plan.map Dd.p)] 0)) ?_;unfold qz;walk_at "rd"
 rw[Xe sz plan hl hd hi];walk_at "rd"
namespace II
noncomputable abbrev R5:PV:=.dk []
noncomputable abbrev Xf:PV->Option (Res PV):=w6
def iK(a:Nat):Key:=.inl (a:Int)
def iV(a:Nat):PV:=.int (a:Int)
theorem yX(a b:Nat)(e:iK a=iK b):a=b:=by have:=Zb4 e;omega
theorem Yg{a b:Nat}(h:a≠b):(Sum.inl (a:Int):Key)≠.inl (b:Int):=λe=>h (by have:=Zb4 e;omega)
structure Gv where
 gv:Nat->PV
 GD:List (Nat×Nat)->PV
 srtd:List (Nat×Nat)->List PV
 still:∀ g,(gv g).still=true
 nn:∀ g,(gv g).ux=false
 nil:GD []=R5
 isD:∀ l,(GD l).isD=true
 sh:∀ l,PV.mH (GD l)=true
 find:∀ l g,eE (GD l) (gv g)=some ((lk l g).map iV)
 put:∀ l g a,(l.map (·.1)).Nodup->l.length<sizeLine->zZ (GD l) (gv g) (iV a)=some (GD (ptN l g a))
 srt:∀ l (Q:PV->Prop),l.length<64->Q (.lst (srtd l))->Tv (Xf (GD l)) Q
def Gv.GA(G:Gv)(l:List (Nat×Nat)):PV:=.dk (kvQ iK G.gv l)
def Gv.GL(G:Gv)(l:List Nat):List PV:=l.map G.gv
theorem Gv.Qj(G:Gv)(l:List (Nat×Nat))(a:Nat):eE (G.GA l) (.int (a:Int))=some ((lk l a).map G.gv):=by
 unfold Gv.GA;rw[dF_int];exact Za3 some (nJ yX a l)
theorem Gv.Zq(G:Gv){l:List (Nat×Nat)}{a g:Nat}(nd:(l.map (·.1)).Nodup)(h:l.length<sizeLine):zZ (G.GA l) (.int (a:Int)) (G.gv g)=some (G.GA (ptN l a g)):=by
 unfold Gv.GA;rw[vG,Zan (by rw[Ao];exact h)];exact Za3 (λz=>some (PV.dk z)) (sE yX a g nd)
def aW(l:List Nat):List PV:=l.map λ(n:Nat)=>.int (n:Int)
theorem qH(l:List Nat):PV.mH (.lst (aW l))=true:=ZaP.mpr λp hp=>by
 obtain⟨n,_,rfl⟩:=Zag.mp hp;rfl
def wiP(G:Gv)(n:Nat)(W:Nat->List Nat):PV:=.dk ((List.range n).map λ(i:Nat)=>((.inl (i:Int):Key),PV.lst (G.GL (W i))))
theorem nM{f:Nat->PV}{k:Nat}:∀ {l:List Nat},k∈l->cI (l.map λ(i:Nat)=>((.inl (i:Int):Key),f i)) (.inl (k:Int))=some (f k)
 |i::l,h=>by
  rw[Zap];unfold cI;by_cases e:i=k
  ·subst e;rw[Zan rfl]
  ·rw[Zam (Yg e)];exact nM ((ZaA.mp h).resolve_left (Zbj e))
theorem U9{G:Gv}{n k:Nat}{W:Nat->List Nat}(h:k<n):eE (wiP G n W) (.int (k:Int))=some (some (.lst (G.GL (W k)))):=by
 unfold wiP;rw[dF_int,nM (f:=λi=>.lst (G.GL (W i))) (Zav.mpr h)]
def gvP(G:Gv):Option Nat->PV
 |none=>.non
 |some g=>G.gv g
theorem t7{l:List Nat}{i:Nat}{x:PV}(h:(aW l)[i]?=some x):∃ g,l[i]?=some g/\x=.int (g:Int):=by
 unfold aW at h;rw[Zad] at h;cases e:l[i]? with
 |none=>rw[e] at h;cases h
 |some g=>rw[e] at h;cases h;exact⟨g,rfl,rfl⟩
theorem Nt{G:Gv}{l:List Nat}{i:Nat}{x:PV}(h:(G.GL l)[i]?=some x):∃ g,l[i]?=some g/\x=G.gv g:=by
 unfold Gv.GL at h;rw[Zad] at h;cases e:l[i]? with
 |none=>rw[e] at h;cases h
 |some g=>rw[e] at h;cases h;exact⟨g,rfl,rfl⟩
theorem t8(l:List Nat)(b:Nat):aW l++[.int (b:Int)]=aW (l++[b]):=by simp[aW]
theorem p6{l:List Nat}{i a:Nat}(h:l[i]?=some a):atI (aW l) (i:Int)=some (.int (a:Int)):=by
 exact qb (by unfold aW;rw[Zad,h];rfl)
theorem pZ{G:Gv}{n N:Nat}{W:Nat->List Nat}{B:List (Nat×Nat)}{S:List Nat}(hN:N<=120)(hS:S.length<=60)(sl:∀ a∈S,a<n)(wl:∀ i g,g∈W i->g<N)(bl:∀ g b,lk B g=some b->b<n) :
  ∃ g R cb,jr [wiP G n W,G.GD B,.lst (aW S)]=some (.ok (.tup [gvP G g,.lst (aW R),G.GD cb]))/\W8 n W B S g R cb:=by
 have big:∀ {k:Nat},k<=900->k<sizeLine:=λh=>bI (by lia)
 suffices h:∃ p,jr [wiP G n W,G.GD B,.lst (aW S)]=some (.ok p)/\∃ g R cb,p=.tup [gvP G g,.lst (aW R),G.GD cb]/\W8 n W B S g R cb by
  obtain⟨p,e,g,R,cb,rfl,h⟩:=h;exact⟨g,R,cb,e,h⟩
 refine Am ?_;unfold vK;rw[show startR [wiP G n W,G.GD B,.lst (aW S)] 5=[some (.sh (wiP G n W)),some (.sh (G.GD B)),some (.sh (.lst (aW S))),none,none,none,none,none] from rfl];walk_at "rd"
 refine pN (n:=199) (I:=λk Z=>∃ (R:List Nat) (cb:List (Nat×Nat)) (pl:Nat) (v6 v7:Option Sl),Z=[some (.sh (wiP G n W)),some (.sh (G.GD B)),some (.sh (.lst (aW S))),some (.ow (.lst (aW R))),some (.ow (G.GD cb)),some (.sh (.int (pl:Int))),v6,v7]/\k+pl=199/\pl<=R.length/\Wk n W B S R cb/\∀ i a,i<pl->R[i]?=some a->∀ x∈W a,x∈cb.map (·.1)) ⟨S,[],0,none,none,by rw[G.nil];rfl,rfl,Za7 _,Wk.start sl,λi a h=>absurd h (ZbI _)⟩ ?_
 rintro k Z ⟨R,cb,pl,v6,v7,rfl,hk,hpl,hw,hc⟩;have hR:=hw.len;have hcb:=hw.pC wl;walk_at "rd"
 by_cases hlt:(pl:Int)<((aW R).length:Int)
 case neg=>
  rw[Zam hlt];have hpl2:pl=R.length:=by simp only[aW,Zab] at hlt;lia
  unfold xQ;walk_at "rd"
  refine⟨rfl,qH R,G.sh cb,ZaB (big (by lia)),none,R,cb,rfl,hw,λa ha x hx=>?_⟩
  obtain⟨i,hi⟩:=ZaW ha;exact hc i a (by rw[hpl2];exact(Zac.mp hi).1) hi x hx
 case pos=>
  rw[Zan hlt];have hp2:pl<R.length:=by simp only[aW,Zab] at hlt;lia
  obtain⟨a,ha⟩:∃ a,R[pl]?=some a:=⟨_,Zae hp2⟩;have al:a<n:=hw.lt a (Zah ha);refine⟨by lia,?_⟩
  unfold xP;walk_at "rd"
  refine⟨.int (a:Int),p6 ha,rfl,_,U9 al,?_⟩;rw[tv_asSeqL];refine dU (I:=λj Z=>∃ (R:List Nat) (cb:List (Nat×Nat)) (v7:Option Sl),Z=[some (.sh (wiP G n W)),some (.sh (G.GD B)),some (.sh (.lst (aW S))),some (.ow (.lst (aW R))),some (.ow (G.GD cb)),some (.sh (.int (pl:Int))),some (.sh (.int (a:Int))),v7]/\R[pl]?=some a/\Wk n W B S R cb/\(∀ i a,i<pl->R[i]?=some a->∀ x∈W a,x∈cb.map (·.1))/\∀ i x,i<j->(W a)[i]?=some x->x∈cb.map (·.1)) ⟨R,cb,v7,rfl,ha,hw,hc,λi x h=>absurd h (ZbI _)⟩ ?_ ?_
  case refine_2=>
   rintro Z ⟨R,cb,v7,rfl,ha,hw,hc,hj⟩;have hR:=hw.len;have hcb:=hw.pC wl;have hp3:pl<R.length:=(Zac.mp ha).1;walk_at "rd"
   unfold xO;walk_at "rd"
   refine⟨R,cb,pl+1,some (.sh (.int a)),v7,by simp,by lia,hp3,hw,λi b hi hb x hx=>?_⟩
   by_cases e:i=pl
   ·subst e;rw[ha] at hb;cases hb;obtain⟨i,hi⟩:=ZaW hx;exact hj i x (by simpa[Gv.GL] using(Zac.mp hi).1) hi
   ·exact hc i b (by lia) hb x hx
  rintro j y Z ey ⟨R,cb,v7,rfl,ha,hw,hc,hj⟩;obtain⟨g,eg,rfl⟩:=Nt ey;have hR:=hw.len;have hcb:=hw.pC wl;have hg:g∈W a:=Zah eg;unfold xN;walk_at "rd"
  refine⟨G.isD _,_,G.find _ _,?_⟩;cases hk2:lk cb g with
  |some z=>
   rw[Zbt,ZbM,Zan rfl];refine⟨R,cb,_,rfl,ha,hw,hc,λi x hi hx=>?_⟩;by_cases e:i=j
   ·subst e;rw[eg] at hx;cases hx;exact Zag.mpr ⟨_,Dy hk2,rfl⟩
   ·exact hj i x (by lia) hx
  |none=>
   rw[Zct,Zb3,Zam (by decide)]
   unfold xM;walk_at "rd"
   refine⟨_,G.put _ _ _ hw.nd (big (by lia)),G.isD _,_,G.find _ _,?_⟩
   rw[Nr _ _ _ hk2];cases hb:lk B g with
   |none=>
    rw[Zct,Zb3,Zan (by decide)]
    unfold xJ;walk_at "rd"
    exact⟨G.still g,qH R,G.sh _,ZaB (big (by lia)),some g,R,_,rfl,cb,a,pl,rfl,hw,ha,hg,hk2,hb⟩
   |some b=>
    rw[Zbt,ZbM,Zam (by decide)]
    unfold xK;walk_at "rd"
    have hp3:pl<R.length:=(Zac.mp ha).1;have sub:∀ x,x∈cb.map (·.1)->x∈(cb++[(g,a)]).map (·.1):=λx hx=>by rw[ZaJ];exact Zbv _ hx
    refine⟨G.isD _,.int (b:Int),by rw[G.find,hb];rfl,by simp only[aW,Zab];exact big (by lia),R++[b],cb++[(g,a)],_,by rw[t8],by rw[Zak hp3];exact ha,hw.more ha hg hk2 hb (bl g b hb),λi c hi hc' x hx=>?_,λi x hi hx=>?_⟩
    ·rw[Zak (by lia)] at hc'
     exact sub x (hc i c hi hc' x hx)
    ·by_cases e:i=j
     ·subst e;rw[eg] at hx;cases hx;simp
     ·exact sub x (hj i x (by lia) hx)
theorem yO{G:Gv}{A B cb:List (Nat×Nat)}:eO [G.GA A,G.GD B,G.GD cb,.non]=some (.ok (.tup [G.GA A,G.GD B])):=by
 suffices h:∃ p,eO [G.GA A,G.GD B,G.GD cb,.non]=some (.ok p)/\p=.tup [G.GA A,G.GD B] by
  obtain⟨p,e,rfl⟩:=h;exact e
 show ∃ p,vy (iZ (dR [G.GA A,G.GD B,G.GD cb,.non] 3))=some (.ok p)/\p=.tup [G.GA A,G.GD B]
 refine tR ?_;unfold iZ;rw[show dR [G.GA A,G.GD B,G.GD cb,.non] 3=[some (.ow (G.GA A)),some (.ow (G.GD B)),some (.sh (G.GD cb)),some (.sh .non),none,none,none] from rfl];walk_at "rd"
 refine pN (n:=199) (I:=λ_ Z=>Z=[some (.ow (G.GA A)),some (.ow (G.GD B)),some (.sh (G.GD cb)),some (.sh .non),some (.sh .non),none,none]) rfl ?_;rintro k Z rfl;walk_at "rd"
 rw[Zam (show ¬PV.non.ux=false by decide)]
 exact⟨_,rfl,rfl⟩
theorem HS{G:Gv}{n N:Nat}{W:Nat->List Nat}{A0 B0 cb:List (Nat×Nat)}{s g a:Nat}{Dd:Nat->Prop}(hn:n<=60)(hN:N<=120)(wl:∀ i g,g∈W i->g<N)(P:Pm n W A0 B0)(b:Bk n W B0 s (cb++[(g,a)]))(c:dH W B0 Dd)(hs:lk A0 s=none)(hg:lk B0 g=none) :
  ∃ A B,eO [G.GA A0,G.GD B0,G.GD (cb++[(g,a)]),G.gv g]=some (.ok (.tup [G.GA A,G.GD B]))/\Pm n W A B/\lk A s≠none/\(∀ b,lk A0 b≠none->lk A b≠none)/\(∀ b,lk A b≠none->b=s\/lk A0 b≠none)/\dH W B Dd:=by
 have big:∀ {k:Nat},k<=900->k<sizeLine:=λh=>bI (by lia)
 suffices h:∃ p,eO [G.GA A0,G.GD B0,G.GD (cb++[(g,a)]),G.gv g]=some (.ok p)/\∃ A B,p=.tup [G.GA A,G.GD B]/\Pm n W A B/\lk A s≠none/\(∀ b,lk A0 b≠none->lk A b≠none)/\(∀ b,lk A b≠none->b=s\/lk A0 b≠none)/\dH W B Dd by
  obtain⟨p,e,A,B,rfl,h⟩:=h;exact⟨A,B,e,h⟩
 generalize hcb:cb++[(g,a)]=cbx at b ⊢
 have e0:cbx[cb.length]?=some (g,a):=by rw[<-hcb];simp
 have hlen:cbx.length<=N:=jQ b.nd λx hx=>by
  obtain⟨p,hp,rfl⟩:=Zag.mp hx;exact wl _ _ (b.wish p hp)
 have kl:∀ {l:List (Nat×Nat)}{k:Nat},k∈l.map (·.1)->∃ v,lk l k=some v:=λ{l k} h=>by
  cases e:lk l k with
  |none=>exact absurd h (mQ.mp e)
  |some v=>exact⟨v,rfl⟩
 have j0:Jp n N W A0 B0 s cbx Dd cb.length g A0 B0:=by
  refine⟨P.ndA,P.ndB,λx hx=>?_,λx hx=>?_,λi p b' h1 h2 h3=>h3,hs,λa' g' _=>P.iff a' g',λa' z=>?_,P.ok,λd _ z=>?_,λg' d _ z=>z,λb' z=>z,λb' z=>z⟩
  ·obtain⟨v,hv⟩:=kl hx;exact(P.ok hv).2
  ·obtain⟨v,hv⟩:=kl hx;exact wl _ _ (P.ok ((P.iff _ _).mpr hv)).1
  ·rw[(P.iff _ _).mp z] at hg;cases hg
  ·rw[hg] at z;cases z
 refine tR ?_;unfold iZ;rw[show dR [G.GA A0,G.GD B0,G.GD cbx,G.gv g] 3=[some (.ow (G.GA A0)),some (.ow (G.GD B0)),some (.sh (G.GD cbx)),some (.sh (G.gv g)),none,none,none] from rfl];walk_at "rd"
 refine pN (n:=199) (I:=λm Z=>∃ (A B:List (Nat×Nat)) (y:Option Nat) (v5 v6:Option Sl),Z=[some (.ow (G.GA A)),some (.ow (G.GD B)),some (.sh (G.GD cbx)),some (.sh (G.gv g)),some (.sh (gvP G y)),v5,v6] /\
  match y with
  |none=>Pm n W A B/\lk A s≠none/\(∀ b,lk A0 b≠none->lk A b≠none)/\(∀ b,lk A b≠none->b=s\/lk A0 b≠none)/\dH W B Dd
  |some x=>∃ k a,cbx[k]?=some (x,a)/\k<m/\Jp n N W A0 B0 s cbx Dd k x A B) ⟨A0,B0,some g,none,none,rfl,cb.length,a,e0,by have:=(Zac.mp e0).1;lia,j0⟩ ?_
 rintro m Z ⟨A,B,y,v5,v6,rfl,hy⟩;cases y with
 |none=>
  rw[show gvP G none=.non from rfl];walk_at "rd"
  rw[Zam (show ¬PV.non.ux=false by decide)]
  exact⟨_,rfl,A,B,rfl,hy⟩
 |some x=>
  obtain⟨k,a',ek,km,j⟩:=hy;rw[show gvP G (some x)=G.gv x from rfl];walk_at "rd"
  rw[Zan (G.nn x)];refine⟨by lia,?_⟩
  unfold qN;have lc:lk cbx x=some a':=zO b.nd (Zah ek);have lA:=jQ j.ndA j.kA;have lB:=jQ j.ndB j.kB;walk_at "rd"
  refine⟨G.isD _,.int (a':Int),by rw[G.find,lc];rfl,rfl,_,G.Qj _ _,_,G.Zq j.ndA (big (by lia)),_,G.put _ _ _ j.ndB (big (by lia)),ptN A a' x,ptN B x a',lk A a',some (.sh (.int (a':Int))),some (.sh ((Option.map G.gv (lk A a')).getD PV.non)),?_,?_⟩
  ·cases lk A a'<;>rfl
  ·cases hl:lk A a' with
   |none=>exact j.last P b c ek hl
   |some y=>
    obtain⟨k2,a2,h1,h2,h3⟩:=j.step P wl b c ek hl;exact⟨k2,a2,h2,by lia,h3⟩
theorem tZ(G:Gv)(n:Nat)(W:Nat->List Nat):Cq ((List.range n).map λ(i:Nat)=>((.inl (i:Int):Key),PV.lst (G.GL (W i))))=aW (List.range n):=by
 unfold Cq aW;rw[ZaG];rfl
theorem HW{G:Gv}{n N:Nat}{W:Nat->List Nat}(hn:n<=60)(hN:N<=120)(wl:∀ i g,g∈W i->g<N) :
  ∃ A B,gJ [wiP G n W]=some (.ok (G.GA A))/\Pm n W A B/\∃ Dd,dH W B Dd/\∀ a,a<n->lk A a=none->Dd a:=by
 have big:∀ {k:Nat},k<=900->k<sizeLine:=λh=>bI (by omega)
 suffices h:∃ p,gJ [wiP G n W]=some (.ok p)/\∃ A B,p=G.GA A/\Pm n W A B/\∃ Dd,dH W B Dd/\∀ a,a<n->lk A a=none->Dd a by
  obtain⟨p,e,A,B,rfl,h⟩:=h;exact⟨A,B,e,h⟩
 refine tQ ?_;unfold nC;rw[show startR [wiP G n W] 4=[some (.sh (wiP G n W)),none,none,none,none] from rfl];walk_at "rd"
 refine⟨rfl,?_⟩;rw[show wiP G n W=.dk ((List.range n).map λ(i:Nat)=>((.inl (i:Int):Key),PV.lst (G.GL (W i)))) from rfl,tv_dkeys,tZ,<-show wiP G n W=.dk ((List.range n).map λ(i:Nat)=>((.inl (i:Int):Key),PV.lst (G.GL (W i)))) from rfl];refine dU (I:=λj Z=>∃ (A B:List (Nat×Nat)) (v3 v4:Option Sl),Z=[some (.sh (wiP G n W)),some (.ow (G.GA A)),some (.ow (G.GD B)),v3,v4]/\Pm n W A B/\(∀ a,j<=a->lk A a=none)/\∃ Dd,dH W B Dd/\∀ a,a<j->lk A a=none->Dd a)
  ⟨[],[],none,none,by rw[G.nil];rfl,⟨by simp,by simp,λa g=>by simp[lk],λ{a g} h=>by simp[lk] at h⟩,λa _=>rfl,λ_=>False,λd h=>h.elim,λa h=>absurd h (ZbI _)⟩ ?_ ?_
 case refine_2=>
  rintro Z ⟨A,B,v3,v4,rfl,P,un,Dd,c,hd⟩;walk_at "rd"
  unfold pU;walk_at "rd"
  exact⟨A,rfl,B,P,Dd,c,λa ha=>hd a (by simpa[aW] using ha)⟩
 rintro j y Z ey ⟨A,B,v3,v4,rfl,P,un,Dd,c,hd⟩;obtain⟨s,es,rfl⟩:=t7 ey;have hs:s=j/\s<n:=by
  have hj:j<n:=by simpa using(Zac.mp es).1
  rw[Za4 hj] at es;cases es;exact⟨rfl,hj⟩
 obtain⟨rfl,sn⟩:=hs;obtain⟨g,R,cb,ew,he⟩:=pZ (G:=G) (B:=B) (S:=[s]) hN (by simp) (λa ha=>by simp at ha;omega) wl λg b h=>(P.ok ((P.iff _ _).mpr h)).2
 unfold pR;walk_at "rd"
 refine⟨ZaB (big (by omega)),?_⟩
 rw[show[PV.int (s:Int)]=aW [s] from rfl,ew];walk_at "rd"
 cases g with
 |none=>
  obtain⟨hw,hc⟩:=he;refine⟨_,_,yO,A,B,_,_,rfl,P,λa ha=>un a (by omega),λd=>Dd d\/d∈R,λd hd' g hg=>?_,λa ha hl=>?_⟩
  ·rcases hd' with h|h
   ·obtain⟨d',h1,h2⟩:=c d h g hg;exact⟨d',h1,.inl h2⟩
   ·obtain⟨p,hp,rfl⟩:=Zag.mp (hc d h g hg);cases e:lk B p.1 with
    |none=>exact absurd e (hw.pr p hp)
    |some b=>
     refine⟨b,rfl,.inr ?_⟩;rw[hw.eq];exact ZaN _ (Zag.mpr ⟨p,hp,by rw[e];rfl⟩)
  ·by_cases e:a=s
   ·right;subst e;rw[hw.eq];simp
   ·exact .inl (hd a (by omega) hl)
 |some g=>
  obtain⟨cb',a,i,rfl,hw,ha,hg,hk,hb⟩:=he;obtain⟨A',B',e1,P',h1,h2,h3,c'⟩:=HS (G:=G) hn hN wl P (hw.bk ha hg hk) c (un s (Zal _)) hb;refine⟨_,_,e1,A',B',_,_,rfl,P',λb hb'=>?_,Dd,c',λb hb' hl=>?_⟩
  ·cases e:lk A' b with
   |none=>rfl
   |some z=>
    rcases h3 b (by rw[e];simp) with h|h
    ·omega
    ·exact absurd (un b (by omega)) h
  ·by_cases e:b=s
   ·subst e;exact absurd hl h1
   ·refine hd b (by omega) ?_
    cases z:lk A b with
    |none=>rfl
    |some z'=>exact absurd hl (h2 b (by rw[z];simp))
theorem yd{G:Gv}:∀ (l:List (Nat×Nat)) {B:List (Nat×Nat)},(B.map (·.1)).Nodup->B.length+l.length<=900->fK (G.GD B) (l.map λp=>(G.gv p.2,PV.int (p.1:Int)))=some (G.GD (uo l B))
 |[],_,_,_=>rfl
 |p::l,B,nd,h=>by
  have h1:=G.put B p.2 p.1 nd (bI (by simp at h;lia))
  rw[Zap];unfold fK;rw[show PV.int (p.1:Int)=iV p.1 from rfl,h1];exact yd l (zP nd _ _) (by have:=HR p.2 p.1 B;simp at h;lia)
theorem sG{G:Gv}:∀ (l:List (Nat×Nat)),jH (l.map λp=>PV.tup [G.gv p.2,.int (p.1:Int)])=some (l.map λp=>(G.gv p.2,PV.int (p.1:Int)))
 |[]=>rfl
 |p::l=>by
  rw[Zap];unfold jH;rw[sG l];rfl
theorem K3(l:List Nat):iM (aW l)=some (l.map λ(n:Nat)=>(n:Int)):=by
 rw[show aW l=(l.map λ(n:Nat)=>(n:Int)).map PV.int by simp[aW]]
 exact nq _
theorem ye(G:Gv)(l:List (Nat×Nat)):vA (kvQ iK G.gv l)=l.map λp=>PV.tup [.int (p.1:Int),G.gv p.2]:=by
 unfold vA kvQ;rw[ZaG];rfl
theorem DK{G:Gv}{n N:Nat}{W:Nat->List Nat}{A B:List (Nat×Nat)}{Dd:Nat->Prop}(hn:n<=60)(hN:N<=120)(wl:∀ i g,g∈W i->g<N)(P:Pm n W A B)(c:dH W B Dd)(hd:∀ a,a<n->lk A a=none->Dd a) :
  ∃ B' R cb,eY [wiP G n W,G.GA A]=some (.ok (.tup [.lst ((srt (R.map λ(n:Nat)=>(n:Int))).map .int),.lst (G.srtd cb)]))/\(∀ g a,lk B' g=some a↔lk B g=some a)/\Wk n W B' (dM n A) R cb/\∀ a∈R,∀ x∈W a,x∈cb.map (·.1):=by
 have big:∀ {k:Nat},k<=900->k<sizeLine:=λh=>bI (by lia)
 have kl:∀ {l:List (Nat×Nat)}{k:Nat},k∈l.map (·.1)->∃ v,lk l k=some v:=λ{l k} h=>by
  cases e:lk l k with
  |none=>exact absurd h (mQ.mp e)
  |some v=>exact⟨v,rfl⟩
 have lA:A.length<=n:=jQ P.ndA λx hx=>by obtain⟨v,hv⟩:=kl hx;exact(P.ok hv).2
 obtain⟨g,R,cb,ew,he⟩:=pZ (G:=G) (B:=uo A []) (S:=dM n A) hN (by have:(dM n A).length<=(List.range n).length:=ZaO _ _;rw[Zay] at this;lia) (λa ha=>by simpa[dM] using(Zau.mp ha).1) wl λg b h=>(P.ok ((P.iff _ _).mpr ((P.rev g b).mp h))).2
 have stay:∀ {R cb},Wk n W (uo A []) (dM n A) R cb->(∀ a∈R,Dd a):=λ{R cb} hw=>by
  intro a ha;obtain⟨i,hi⟩:=ZaW ha;induction i using Nat.strongRecOn generalizing a with
  |_ i ih=>
   rw[hw.eq] at hi;by_cases hl:i<(dM n A).length
   ·rw[Zak hl] at hi;have:=Zau.mp (Zah hi);exact hd a (by simpa using this.1) (by simpa using this.2)
   ·rw[Zas (by lia),Zad] at hi
    cases q:cb[i-(dM n A).length]? with
    |none=>rw[q] at hi;cases hi
    |some p=>
     rw[q] at hi;have hi:some ((lk (uo A []) p.1).getD 0)=some a:=hi;obtain⟨j,h1,h2⟩:=hw.back _ p q;have dj:=ih j (by lia) p.2 (Zah h2) h2
     obtain⟨d',e1,e2⟩:=c p.2 dj p.1 (hw.wish p (Zah q));rw[(P.rev _ _).mpr e1] at hi;cases hi;exact e2
 have hg:g=none:=by
  cases g with
  |none=>rfl
  |some g=>
   obtain⟨cb',a,i,rfl,hw,ha,hg,hk,hb⟩:=he;obtain⟨d',e1,_⟩:=c a (stay hw a (Zah ha)) g hg;rw[(P.rev _ _).mpr e1] at hb;cases hb
 subst hg;obtain⟨hw,hc⟩:=he;refine⟨uo A [],R,cb,?_,P.rev,hw,hc⟩;refine fX ?_;unfold iR;rw[show startR [wiP G n W,G.GA A] 2=[some (.sh (wiP G n W)),some (.sh (G.GA A)),none,none] from rfl];walk_at "rd"
 rw[show G.GA A=.dk (kvQ iK G.gv A) from rfl,tv_ditems,ye,fQ (λp:Nat×Nat=>PV.tup [.int (p.1:Int),G.gv p.2]) (λ_=>true) (λp=>PV.tup [G.gv p.2,.int (p.1:Int)]) A λp _=>⟨_,rfl,rfl,λ_=>eV (by walk_at "rd";exact ZaB (big (by lia)))⟩,tv_some,Zbz.mpr (λ_ _=>rfl)]
 have pa:fK R5 (A.map λp=>(G.gv p.2,PV.int (p.1:Int)))=some (G.GD (uo A [])):=by
  have h:=yd (G:=G) A (B:=[]) (by simp) (by simp;lia)
  rw[G.nil] at h;exact h
 refine⟨rfl,by rw[Zab];exact ZaB (big (by lia)),_,sG A,_,pa,rfl,?_⟩
 rw[show wiP G n W=.dk ((List.range n).map λ(i:Nat)=>((.inl (i:Int):Key),PV.lst (G.GL (W i)))) from rfl,tv_dkeys,tZ,<-show wiP G n W=.dk ((List.range n).map λ(i:Nat)=>((.inl (i:Int):Key),PV.lst (G.GL (W i)))) from rfl];refine⟨by simp only[aW,Zab,Zay];exact ZaB (big (by lia)),?_⟩
 rw[show aW (List.range n)=(List.range n).map λ(i:Nat)=>PV.int (i:Int) from rfl,fQ (λi:Nat=>PV.int (i:Int)) (λa=>(lk A a).isNone) (λi:Nat=>PV.int (i:Int)) (List.range n) λa _=>⟨_,rfl,eV (by
  walk_at "rd"
  rw[show cI (kvQ iK G.gv A) (.inl (a:Int))=(lk A a).map G.gv from nJ yX a A];cases lk A a<;>rfl),λ_=>eV (by walk_at "rd")⟩,tv_some,show((List.range n).filter λa=>(lk A a).isNone).map (λ(i:Nat)=>PV.int (i:Int))=aW (dM n A) from rfl,ew]
 walk_at "rd"
 have hR:=hw.len;have hcb:=hw.pC wl;have hf:(dM n A).length<=(List.range n).length:=ZaO _ _;rw[Zay] at hf;have nR:R.length<=n:=by
  have:=bT (l:=R) (k:=List.range n) (Wk.ndR P P.rev hw) λx hx=>Zav.mpr (hw.lt x hx);simpa using this
 refine⟨_,K3 R,by rw[Zab];lia,G.isD _,G.srt cb _ (by lia) ?_⟩
 exact⟨ZaB (big (by lia)),rfl⟩
theorem Rx{n:Nat}{G:Nat->Nat->Prop}{W:Nat->List Nat}{A B B':List (Nat×Nat)}{R:List Nat}{cb:List (Nat×Nat)}(wG:∀ a g,g∈W a↔g<a/\G g a)(wl:∀ i g,g∈W i->g<n)(tr:∀ {i j k},G i j->G j k->G i k)(P:Pm n W A B)(hB:∀ g a,lk B' g=some a↔lk B g=some a)(hw:Wk n W B' (dM n A) R cb)(hc:∀ a∈R,∀ x∈W a,x∈cb.map (·.1)) :
  R.Nodup/\(∀ a∈R.filter (λa=>!(cb.map (·.1)).contains a),∀ b∈R.filter (λa=>!(cb.map (·.1)).contains a),a<b->¬G a b)/\(R.filter λa=>!(cb.map (·.1)).contains a).length=(dM n A).length:=by
 have nd:R.Nodup:=Wk.ndR P hB hw;have ap:∀ a∈R.filter (λa=>!(cb.map (·.1)).contains a),∀ b∈R.filter (λa=>!(cb.map (·.1)).contains a),a<b->¬G a b:=λa ha b hb hab hg=>by
  have h1:=(Zau.mp ha).2;have h2:=hc b (Zau.mp hb).1 a ((wG b a).mpr ⟨hab,hg⟩);rw[Zbh.mpr h2] at h1;cases h1
 refine⟨nd,ap,Zc4 ?_ ?_⟩
 ·have M:Mt G (lk A):=⟨λ{j i} h=>(wG _ _).mp (P.ok h).1,λ{j k i} h1 h2=>by
   have a1:=(P.iff _ _).mp h1;rw[(P.iff _ _).mp h2] at a1;exact(Zaf a1).symm⟩
  exact aaR M tr (ZbN Za8 nd) (λa ha=>hw.lt a (Zau.mp ha).1) ap
 ·have h1:=hw.len;have h2:(R.filter λa=>(cb.map (·.1)).contains a).length<=(cb.map (·.1)).length:=bT (ZbN Za8 nd) λx hx=>Zbh.mp (Zau.mp hx).2;have h3:R.length=(R.filter λa=>(cb.map (·.1)).contains a).length+(R.filter λa=>!(cb.map (·.1)).contains a).length:=by
   rw[<-ZcF,<-ZcF,List.length_eq_countP_add_countP (λa=>(cb.map (·.1)).contains a)];congr 2
   funext a
   cases (cb.map (·.1)).contains a<;>rfl
  rw[Zab] at h2;omega
theorem Gx:∀ (l:List (Nat×Nat)),pJ ((kvQ iK iV l).map (·.1))=some ((l.map (·.1)).map λ(n:Nat)=>(n:Int))
 |[]=>rfl
 |p::l=>by
  show(pJ ((kvQ iK iV l).map (·.1))).map ((p.1:Int)::·)=_
  rw[Gx l];rfl
def gvI:Gv where
 gv:=iV
 GD l:=.dk (kvQ iK iV l)
 srtd l:=(srt ((l.map (·.1)).map λ(n:Nat)=>(n:Int))).map .int
 still _:=rfl
 nn _:=rfl
 nil:=rfl
 isD _:=rfl
 sh l:=ZaP.mpr λp hp=>by
  obtain⟨n,_,rfl⟩:=Zag.mp hp;rfl
 find l g:=by
  show eE (.dk (kvQ iK iV l)) (.int (g:Int))=_
  rw[dF_int];exact Za3 some (nJ yX g l)
 put l g a nd h:=by
  show zZ (.dk (kvQ iK iV l)) (.int (g:Int)) (iV a)=_
  rw[vG,Zan (by rw[Ao];exact h)]
  exact Za3 (λz=>some (PV.dk z)) (sE yX g a nd)
 srt l Q h q:=by
  show Tv (w6 (.dk (kvQ iK iV l))) Q
  rw[tv_sortD];exact⟨_,Gx l,by simpa using h,q⟩
noncomputable abbrev kvP(l:List (Nat×Nat)):List (Key×PV):=kvQ iK iV l
theorem Av(k:Nat)(l:List (Nat×Nat)):cI (kvP l) (.inl (k:Int))=(lk l k).map λv=>.int (v:Int):=nJ yX k l
theorem aaC{l:List (Nat×Nat)}{k:Nat}:eE (.dk (kvP l)) (.int (k:Int))=some ((lk l k).map λv=>.int (v:Int)):=by rw[dF_int,Av]
theorem Yh{l:List (Nat×Nat)}{k v:Nat}(nd:(l.map (·.1)).Nodup)(h:l.length<sizeLine):zZ (.dk (kvP l)) (.int (k:Int)) (.int (v:Int))=some (.dk (kvP (ptN l k v))):=gvI.put l k v nd h
def inN(st:List Nat)(i j:Nat):Prop:=st.getD j 0 &&& st.getD i 0=st.getD j 0
theorem Vr{st:List Nat}{i j k:Nat}(h1:inN st i j)(h2:inN st j k):inN st i k:=by
 unfold inN at *;rw[<-h2,Nat.and_assoc,h1]
def Qq(st:List Nat)(j:Nat):List Nat:=(List.range j).filter λi=>decide (st.getD j 0 &&& st.getD i 0=st.getD j 0)
theorem Ry{st:List Nat}(a g:Nat):g∈Qq st a↔g<a/\inN st g a:=by
 unfold Qq inN;rw[Zau,Zav,decide_eq_true_eq]
theorem Vs(a b:Nat):Builtin.bitAnd (a:Int) (b:Int)=((a &&& b:Nat):Int):=by
 rw[bitAnd_pp (ZaU _) (ZaU _),ZaD,ZaD]
theorem Rz(x y:Nat):xH [.int (x:Int),.int (y:Int)]=some (.ok (.bl (decide (x &&& y=x)))):=by
 show fin (xG (startR [.int (x:Int),.int (y:Int)] 0))=_
 refine fX ?_;unfold xG;walk_at "rd"
 rw[Vs];exact decide_eq_decide.mpr ⟨λh=>by omega,λh=>by rw[h]⟩
theorem p7(n:Nat):qi 0 (n:Int).toNat=(List.range n).map λ(i:Nat)=>PV.int (i:Int):=by
 unfold qi;rw[ZaD];refine Za6 λi _=>?_;rw[Int.zero_add]
theorem Qs{l:List Nat}{i:Nat}(h:i<l.length):l[i]?=some (l.getD i 0):=by
 rw[Zao,Zae h];rfl
theorem Vt{st:List Nat}{j:Nat}(hl:st.length<=60)(hj:j<st.length):jM [.lst (aW st),.int (j:Int)]=some (.ok (.lst (aW (Qq st j)))):=by
 show pH (jL (startR [.lst (aW st),.int (j:Int)] 0))=_
 refine qu ?_;unfold jL;walk_at "rd"
 have big:∀ {k:Nat},k<=900->k<sizeLine:=λh=>bI (by omega)
 rw[p7,fQ (λi:Nat=>PV.int (i:Int)) (λi=>decide (st.getD j 0 &&& st.getD i 0=st.getD j 0)) (λi:Nat=>PV.int (i:Int)) (List.range j) λi hi=>⟨_,rfl,eV (by
  have il:i<st.length:=by have:=Zav.mp hi;omega
  walk_at "rd"
  refine⟨_,p6 (Qs hj),_,p6 (Qs il),?_⟩;rw[Rz];walk_at "rd"),λ_=>eV (by walk_at "rd")⟩,tv_some]
 exact⟨by omega,by omega,by rw[Zab,Zay];exact ZaB (big (by omega)),rfl⟩
theorem Qt{p:PV}{k:Key}:∀ {l:List (Key×PV)},cI l k=none->iQ l k p=l++[(k,p)]
 |[],_=>rfl
 |(a,q)::l,h=>by
  unfold cI at h;split at h
  ·cases h
  ·rename_i hp;unfold iQ;rw[Zam hp,Qt h];rfl
theorem K4{f:Nat->PV}{k:Nat}:∀ {l:List Nat},k ∉ l->cI (l.map λ(i:Nat)=>((.inl (i:Int):Key),f i)) (.inl (k:Int))=none
 |[],_=>rfl
 |i::l,h=>by
  rw[Zap];unfold cI;rw[Zam (Yg λe=>h (by rw[e];exact Zaw))]
  exact K4 λz=>h (Zaq _ z)
theorem Vu(f:Nat->PV):∀ (l l0:List Nat),(l0++l).Nodup->l0.length+l.length<=900->fK (.dk (l0.map λ(i:Nat)=>((.inl (i:Int):Key),f i))) (l.map λ(i:Nat)=>(PV.int (i:Int),f i))=some (.dk ((l0++l).map λ(i:Nat)=>((.inl (i:Int):Key),f i)))
 |[],l0,_,_=>by rw[Za1];rfl
 |i::l,l0,nd,hl=>by
  simp only[ZaQ] at hl;rw[Zap];unfold fK;have hi:i ∉ l0:=λz=>(Zbi.mp nd).2.2 i z i Zaw rfl;rw[vG,Zan (by rw[Zab];exact bI (by omega)),Qt (K4 hi)]
  have:=Vu f l (l0++[i]) (by rw[Zby];exact nd) (by rw[ZaC];simp;omega)
  rw[ZaJ,Zby] at this;exact this
theorem K5(f:Nat->PV):∀ (l:List Nat),jH (l.map λ(i:Nat)=>PV.tup [.int (i:Int),f i])=some (l.map λ(i:Nat)=>(PV.int (i:Int),f i))
 |[]=>rfl
 |i::l=>by
  rw[Zap];unfold jH;rw[K5 f l];rfl
def ofN(st:List Nat)(i j:Nat):Prop:=j<st.length/\inN st i j
def Ij(st:List Nat)(j:Nat):List Nat:=if j<st.length then Qq st j else[]
theorem ym{st:List Nat}(a g:Nat):g∈Ij st a↔g<a/\ofN st g a:=by
 unfold Ij ofN;split
 ·rename_i h;rw[Ry];simp[h]
 ·rename_i h;simp[h]
theorem K6(x:Int)(ns:List Int):inU (.int x) (.lst (ns.map .int))=some (ns.contains x):=by
 show inF (.int x) (ns.map .int)=_
 rw[HF (g:=PV.int) (eqF_int 31),List.contains_eq_mem]
structure Chs(n:Nat)(A:List (Nat×Nat))(L:List (List Nat)):Prop where
 ne:∀ r∈L,r≠[]
 link:∀ r∈L,∀ (t x y:Nat),r[t]?=some x->r[t+1]?=some y->lk A y=some x
 inc:∀ r∈L,r.Pairwise (·<·)
 all:∀ i,i<n↔i∈L.flatten
 nd:L.flatten.Nodup
 hd:(L.map λr=>r.headD 0).Pairwise (·<·)
theorem Chs.nil(A:List (Nat×Nat)):Chs 0 A []:=⟨λr h=>by simp at h,λr h=>by simp at h,λr h=>by simp at h,λi=>by simp,by simp,by simp⟩
theorem uc{r:List Nat}(h:r≠[]):r.headD 0∈r:=by
 cases r with
 |nil=>exact absurd rfl h
 |cons a l=>simp
theorem Chs.new{n:Nat}{A:List (Nat×Nat)}{L:List (List Nat)}(h:Chs n A L):Chs (n+1) A (L++[[n]]):=by
 have lt:∀ i∈L.flatten,i<n:=λi hi=>(h.all i).mpr hi;refine⟨λr hr=>?_,λr hr t x y e1 e2=>?_,λr hr=>?_,λi=>?_,?_,?_⟩
 ·rcases ZaK.mp hr with q|q
  ·exact h.ne r q
  ·simp at q;subst q;simp
 ·rcases ZaK.mp hr with q|q
  ·exact h.link r q t x y e1 e2
  ·simp at q;subst q;simp at e2
 ·rcases ZaK.mp hr with q|q
  ·exact h.inc r q
  ·simp at q;subst q;simp
 ·rw[ZbX,ZaK];simp only[ZcV,List.flatten_nil,Za1,Zbf,<-h.all];omega
 ·rw[ZbX,Zbi];refine⟨h.nd,by simp,λx hx y hy e=>?_⟩
  simp at hy;have:=lt x hx;omega
 ·rw[ZaJ,Zce];refine⟨h.hd,by simp,λx hx y hy=>?_⟩
  obtain⟨r,hr,rfl⟩:=Zag.mp hx;simp at hy;subst hy;exact lt _ (Zcm.mpr ⟨r,hr,uc (h.ne r hr)⟩)
theorem K7(j:Nat):∀ {L:List (List Nat)}{k:Nat}{r:List Nat},L[k]?=some r->(L.set k (r++[j])).flatten.Perm (L.flatten++[j])
 |[],k,r,e=>by simp at e
 |a::L,0,r,e=>by
  have e:a=r:=by simpa using e
  subst e;simp only[List.set_cons_zero,ZcV,Zby];exact Zcz _ List.perm_append_comm
 |a::L,k+1,r,e=>by
  simp only[List.set_cons_succ,ZcV,Zby];exact Zcz _ (K7 j (by simpa using e))
theorem Chs.more{n g k:Nat}{A:List (Nat×Nat)}{L:List (List Nat)}{r:List Nat}(h:Chs n A L)(inj:∀ a b g,lk A a=some g->lk A b=some g->a=b)(ha:lk A n=some g)(hk:L[k]?=some r)(hg:g∈r):Chs (n+1) A (L.set k (r++[n])):=by
 have lt:∀ i∈L.flatten,i<n:=λi hi=>(h.all i).mpr hi;have mr:r∈L:=Zah hk;have rl:∀ i∈r,i<n:=λi hi=>lt i (Zcm.mpr ⟨r,mr,hi⟩);have last:∀ t x,t+1=r.length->r[t]?=some x->x=g:=λt x ht hx=>by
  obtain⟨s,hs⟩:=ZaW hg;by_cases e:s=t
  ·subst e;rw[hx] at hs;exact Zaf hs
  ·have sl:s<r.length:=(Zac.mp hs).1;have s1:s+1<r.length:=by omega
   have e2:r[s+1]?=some r[s+1]:=Zae s1;have:=inj _ _ _ (h.link r mr s g _ hs e2) ha;have:=rl _ (ZbZ s1);omega
 have pm:=K7 n hk;have rows:∀ q∈L.set k (r++[n]),q∈L\/q=r++[n]:=λq hq=>List.mem_or_eq_of_mem_set hq;refine⟨λq hq=>?_,λq hq t x y e1 e2=>?_,λq hq=>?_,λi=>?_,?_,?_⟩
 ·rcases rows q hq with z|z
  ·exact h.ne q z
  ·subst z;simp
 ·rcases rows q hq with z|z
  ·exact h.link q z t x y e1 e2
  ·subst z;by_cases h1:t+1<r.length
   ·rw[Zak h1] at e2;rw[Zak (by omega)] at e1
    exact h.link r mr t x y e1 e2
   ·rw[Zas (by omega)] at e2
    have:t+1-r.length=0:=by
     rcases Nat.eq_zero_or_pos (t+1-r.length) with q|q
     ·exact q
     ·rw[ZaR (by simp;omega)] at e2;cases e2
    rw[this] at e2;have e2:n=y:=by simpa using e2
    subst e2;rw[Zak (by omega)] at e1
    rw[last t x (by omega) e1]
    exact ha
 ·rcases rows q hq with z|z
  ·exact h.inc q z
  ·subst z;rw[Zce];refine⟨h.inc r mr,by simp,λx hx y hy=>?_⟩
   simp at hy;subst hy;exact rl x hx
 ·rw[pm.mem_iff,ZaK,<-h.all];simp;omega
 ·rw[pm.nodup_iff,Zbi];refine⟨h.nd,by simp,λx hx y hy e=>?_⟩
  simp at hy;have:=lt x hx;omega
 ·have e:(L.set k (r++[n])).map (λr=>r.headD 0)=L.map λr=>r.headD 0:=by
   rw[List.map_set];apply ZbE
   intro i;rw[ZbT];split
   ·rename_i e;subst e;rw[Zan (by rw[Zab];exact(Zac.mp hk).1),Zad,hk]
    have:=h.ne r mr;cases r with
    |nil=>exact absurd rfl this
    |cons a l=>rfl
   ·rfl
  rw[e];exact h.hd
def DX(r:List Nat):PV:=.lst (aW r)
theorem Nz{n:Nat}{A:List (Nat×Nat)}(hn:n<=60)(lt:∀ a g,lk A a=some g->g<a)(inj:∀ a b g,lk A a=some g->lk A b=some g->a=b) :
  ∃ L:List (List Nat),jz [.int (n:Int),.dk (kvP A)]=some (.ok (.lst (L.map DX)))/\L.length=(dM n A).length/\Chs n A L:=by
 have big:∀ {k:Nat},k<=900->k<sizeLine:=λh=>bI (by omega)
 suffices h:∃ p,jz [.int (n:Int),.dk (kvP A)]=some (.ok p)/\∃ L:List (List Nat),p=.lst (L.map DX)/\L.length=(dM n A).length/\Chs n A L by
  obtain⟨p,e,L,rfl,h⟩:=h;exact⟨L,e,h⟩
 show ∃ p,yH (oG (startR [.int (n:Int),.dk (kvP A)] 3))=some (.ok p)/\∃ L:List (List Nat),p=.lst (L.map DX)/\L.length=(dM n A).length/\Chs n A L
 refine Am ?_;unfold oG;rw[show startR [PV.int (n:Int),.dk (kvP A)] 3=[some (.sh (.int (n:Int))),some (.sh (.dk (kvP A))),none,none,none] from rfl];walk_at "rd"
 refine⟨rfl,by omega,by omega,?_⟩
 refine dU (I:=λj Z=>∃ (L:List (List Nat)) (C:List (Nat×Nat)) (v4:Option Sl),Z=[some (.sh (.int (n:Int))),some (.sh (.dk (kvP A))),some (.dp (.lst (L.map DX))),some (.ow (.dk (kvP C))),v4]/\L.length=(dM j A).length/\Chs j A L/\(C.map (·.1)).Nodup/\C.length<=j/\∀ i,i<j->∃ k r,lk C i=some k/\L[k]?=some r/\i∈r) ⟨[],[],none,rfl,rfl,Chs.nil A,by simp,Zal _,λi h=>absurd h (ZbI _)⟩ ?_ ?_
 case refine_2=>
  rintro Z ⟨L,C,v4,rfl,h1,h2,h3,h4,h5⟩;rw[jx,ZaD] at h1 h2;walk_at "rd"
  unfold uH;walk_at "rd"
  exact⟨L,rfl,h1,h2⟩
 rintro j y Z ey ⟨L,C,v4,rfl,h1,h2,h3,h4,h5⟩;obtain⟨jn,hy⟩:=HJ ey;have hy:y=.int (j:Int):=by rw[hy];congr 1;omega
 subst hy;have jn:j<n:=by omega
 have hL:L.length<=60:=by
  have:(dM j A).length<=(List.range j).length:=ZaO _ _;rw[Zay] at this;omega
 have rlen:∀ r∈L,r.length<=j:=λr hr=>by
  have nd:r.Nodup:=(h2.inc r hr).imp λh=>ZaE h;have:=bT (l:=r) (k:=List.range j) nd λx hx=>Zav.mpr ((h2.all x).mpr (Zcm.mpr ⟨r,hr,hx⟩));simpa using this
 have fs:(dM (j+1) A).length=(dM j A).length+if(lk A j).isNone then 1 else 0:=by
  unfold dM;rw[Zcs,ZcL,ZaC];congr 1
  rw[ZbC];cases lk A j<;>rfl
 unfold uG;walk_at "rd"
 rw[Av];cases ha:lk A j with
 |none=>
  rw[ha] at fs;rw[Zct,Zb3,Zam (by decide)]
  unfold uF;walk_at "rd"
  rw[Zab];refine⟨rfl,_,Yh h3 (big (by omega)),WW (l:=L.map DX) rfl ?_⟩
  walk_at "rd"
  have pl:=HR j L.length C;refine⟨ZaB (big (by omega)),rfl,by rw[Zab];exact big (by omega),L++[[j]],ptN C j L.length,_,by rw[ZaJ];rfl,by rw[ZaC,h1,fs];rfl,h2.new,zP h3 _ _,by omega,λi hi=>?_⟩
  by_cases e:i=j
  ·exact⟨L.length,by rw[gn,Zan e],[j],by simp,by simp[e]⟩
  ·obtain⟨k,r,k1,k2,k3⟩:=h5 i (by omega)
   exact⟨k,by rw[gn,Zam e];exact k1,r,by rw[Zak (Zac.mp k2).1];exact k2,k3⟩
 |some g=>
  rw[ha] at fs;rw[Zbt,ZbM,Zan rfl];unfold uE;walk_at "rd"
  obtain⟨k,row,k2,hrow,kg⟩:=h5 g (lt j g ha);have k1:k<L.length:=(Zac.mp hrow).1;have rl:=rlen row (Zah hrow);have nrl:(aW row).length=row.length:=by simp[aW]
  have pl:=HR j k C;refine⟨.int (g:Int),by rw[Av,ha];rfl,.int (k:Int),by rw[aaC,k2];rfl,_,Yh h3 (big (by omega)),?_⟩
  refine WX (l:=L.map DX) (n:=(k:Int)) (j:=k) (row:=aW row) (q:=.int (j:Int)) rfl (eV ?_) ?_ (by rw[Zad,hrow];rfl) (eV ?_) rfl (by rw[nrl];exact big (by omega)) ?_
  ·walk_at "rd"
   exact⟨_,by rw[Av,gn,Zan rfl];rfl,rfl⟩
  ·rw[Zab];have:=YK (n:=L.length) (i:=(k:Int)) (by omega) (by omega)
   simpa using this
  ·walk_at "rd"
  ·walk_at "rd"
   refine⟨L.set k (row++[j]),ptN C j k,some (.sh (.int (j:Int))),by rw[t8,List.map_set];rfl,by rw[List.length_set,h1,fs];rfl,h2.more inj ha hrow kg,zP h3 _ _,by omega,λi hi=>?_⟩
   by_cases e:i=j
   ·exact⟨k,by rw[gn,Zan e],row++[j],by rw[ZbT,Zan rfl,Zan k1],by simp[e]⟩
   ·obtain⟨k',r',q1,q2,q3⟩:=h5 i (by omega)
    by_cases ek:k'=k
    ·subst ek;rw[hrow] at q2;cases q2;exact⟨k',by rw[gn,Zam e];exact q1,row++[j],by rw[ZbT,Zan rfl,Zan k1],Zbv _ q3⟩
    ·exact⟨k',by rw[gn,Zam e];exact q1,r',by rw[Zax (Zbj ek)];exact q2,q3⟩
theorem RC{st:List Nat}(hl:st.length<=60):∃ (L:List (List Nat)) (B:List Nat) (A:List (Nat×Nat)),cV [.lst (aW st)]=some (.ok (.tup [.lst (L.map DX),.lst (aW B)]))/\L.length=B.length/\Chs st.length A L/\(∀ a g,lk A a=some g->inN st g a)/\B.Pairwise (·<·)/\(∀ b∈B,b<st.length)/\∀ a∈B,∀ b∈B,a<b->¬inN st a b:=by
 have big:∀ {k:Nat},k<=900->k<sizeLine:=λh=>bI (by omega)
 have wl:∀ i g,g∈Ij st i->g<st.length:=λi g h=>by
  have:=(ym i g).mp h;have:=this.2.1;omega
 have tr:∀ {i j k},ofN st i j->ofN st j k->ofN st i k:=λh1 h2=>⟨h2.1,Vr h1.2 h2.2⟩;obtain⟨A,B,em,P,Dd,c,hd⟩:=HW (G:=gvI) hl (by omega) wl
 obtain⟨B',R,cb,es,hB,hw,hc⟩:=DK (G:=gvI) hl (by omega) wl P c hd
 obtain⟨nd,hap,hlen⟩:=Rx ym wl tr P hB hw hc;have inj:∀ a b g,lk A a=some g->lk A b=some g->a=b:=λa b g h1 h2=>by
  have q:=(P.iff _ _).mp h1;rw[(P.iff _ _).mp h2] at q;exact(Zaf q).symm
 obtain⟨L,ec,hL,ch⟩:=Nz hl (λa g h=>((ym _ _).mp (P.ok h).1).1) inj;have ec:jz [.int (st.length:Int),gvI.GA A]=some (.ok (.lst (L.map DX))):=ec;have sm:∀ x∈srt (R.map λ(n:Nat)=>(n:Int)),∃ n:Nat,n∈R/\x=(n:Int):=λx hx=>by
  obtain⟨n,hn,rfl⟩:=Zag.mp ((iW _).mem_iff.mp hx);exact⟨n,hn,rfl⟩
 have slt:(srt (R.map λ(n:Nat)=>(n:Int))).Pairwise (·<·):=by
  have h1:=vz (R.map λ(n:Nat)=>(n:Int));have h2:(srt (R.map λ(n:Nat)=>(n:Int))).Nodup:=by
   rw[(iW _).nodup_iff,List.Nodup,Zbd];exact nd.imp λh e=>h (by omega)
  exact h1.imp₂ (λh e=>by omega) h2
 generalize hF:((srt (R.map λ(n:Nat)=>(n:Int))).filter λx=>!(srt ((cb.map (·.1)).map λ(n:Nat)=>(n:Int))).contains x)=FL
 have fm:∀ x∈FL,∃ n:Nat,n∈R/\x=(n:Int)/\n ∉ cb.map (·.1):=λx hx=>by
  rw[<-hF] at hx;obtain⟨h1,h2⟩:=Zau.mp hx;obtain⟨n,hn,rfl⟩:=sm x h1;refine⟨n,hn,rfl,λz=>?_⟩;have:(srt ((cb.map (·.1)).map λ(n:Nat)=>(n:Int))).contains (n:Int)=true:=Zbh.mpr ((iW _).mem_iff.mpr (Zag.mpr ⟨n,z,rfl⟩));rw[this] at h2;cases h2
 have eB:FL.map PV.int=aW (FL.map Int.toNat):=by
  unfold aW;rw[ZaG];refine Za6 λx hx=>?_;obtain⟨n,_,rfl,_⟩:=fm x hx;rfl
 refine⟨L,FL.map Int.toNat,A,?_,?_,ch,λa g h=>((ym _ _).mp (P.ok h).1).2.2,?_,λb hb=>?_,λa ha b hb hab z=>?_⟩
 ·show yH (ji (startR [.lst (aW st)] 4))=_
  refine WT ?_;unfold ji;walk_at "rd"
  have nl:((aW st).length:Int)=(st.length:Int):=by simp[aW]
  rw[nl,p7,fQ (λi:Nat=>PV.int (i:Int)) (λ_=>true) (λi:Nat=>PV.tup [.int (i:Int),.lst (aW (Ij st i))]) (List.range st.length) λi hi=>⟨_,rfl,rfl,λ_=>eV (by
   have il:i<st.length:=Zav.mp hi;walk_at "rd"
   rw[Vt hl il];walk_at "rd"
   exact⟨ZaB (big (by omega)),by unfold Ij;rw[Zan il]⟩)⟩,tv_some,Zbz.mpr (λ_ _=>rfl)]
  refine⟨by omega,by omega,by rw[Zab,Zay];exact ZaB (big (by omega)),_,K5 (λi=>.lst (aW (Ij st i))) _,_,Vu (λi=>.lst (aW (Ij st i))) _ [] (by simpa using ZbJ) (by simp;omega),?_⟩
  rw[List.nil_append,show PV.dk ((List.range st.length).map λ(i:Nat)=>((.inl (i:Int):Key),PV.lst (aW (Ij st i))))=wiP gvI st.length (Ij st) from rfl,em,tv_some,es,tv_some];walk_at "rd"
  have hR:=hw.len;have hcb:=hw.pC wl;have hf:(dM st.length A).length<=(List.range st.length).length:=ZaO _ _;rw[Zay] at hf;refine⟨by rw[Zab,(iW _).length_eq,Zab];exact ZaB (big (by omega)),?_⟩
  rw[fQ PV.int (λx=>!(srt ((cb.map (·.1)).map λ(n:Nat)=>(n:Int))).contains x) PV.int _ λx _=>⟨_,rfl,eV (by
   walk_at "rd"
   exact⟨_,K6 _ _,rfl⟩),λ_=>eV (by walk_at "rd")⟩,tv_some,ec,tv_some,hF,eB]
  exact⟨qH _,ZaB (big (by decide)),rfl⟩
 ·rw[Zab,hL,<-hlen,<-hF];have e1:∀ x:Nat,(srt ((cb.map (·.1)).map λ(n:Nat)=>(n:Int))).contains (x:Int)=(cb.map (·.1)).contains x:=λx=>by
   rw[Zb6,Zbh,Zbh,(iW _).mem_iff,Zag];exact⟨λ⟨y,hy,e⟩=>by rw[show y=x by omega] at hy;exact hy,λh=>⟨x,h,rfl⟩⟩
  rw[((iW (R.map λ(n:Nat)=>(n:Int))).filter _).length_eq,List.filter_map,Zab];exact(Za3 List.length (ZcU λx _=>by show(!(srt ((cb.map (·.1)).map λ(n:Nat)=>(n:Int))).contains (x:Int))=_;rw[e1])).symm
 ·rw[Zbd];have:FL.Pairwise (·<·):=by rw[<-hF];exact slt.sublist Za8
  refine this.imp_of_mem λ{x y} hx hy h=>?_;obtain⟨n,_,rfl,_⟩:=fm x hx;obtain⟨m,_,rfl,_⟩:=fm y hy;simpa using h
 ·obtain⟨x,hx,rfl⟩:=Zag.mp hb;obtain⟨n,hn,rfl,_⟩:=fm x hx;exact hw.lt n hn
 ·obtain⟨x,hx,rfl⟩:=Zag.mp ha;obtain⟨y,hy,rfl⟩:=Zag.mp hb;obtain⟨n,hn,rfl,q1⟩:=fm x hx;obtain⟨m,hm,rfl,q2⟩:=fm y hy;have im:∀ {n:Nat},n∈R->n ∉ cb.map (·.1)->n∈R.filter λa=>!(cb.map (·.1)).contains a:=λ{n} h1 h2=>Zau.mpr ⟨h1,by simpa using h2⟩
  exact hap n (im hn q1) m (im hm q2) hab ⟨hw.lt m hm,z⟩
end II
theorem ZF{i:Nat}{f:Fn PV}{Z:Rho}{QS:Out->Prop}{l r:List PV}(h:Z[i]?=some (some (.ow (.lst l))))(e:f Z=some (.ok (.lst r)))(hl:l.length+r.length<=sizeLine)(q:QS (.nx (Z.set i (some (.ow (.lst (l++r))))))):To (U3 i f Z) QS:=by
 have ho:ownAt i Z=some (.lst l):=by unfold ownAt;rw[h]
 unfold U3;rw[ho];exact⟨.nx (Z.set i (some (.ow (.lst (l++r))))),by simp only[e,gw];rw[Zan hl],trivial,q⟩
theorem Vv{m:List PV->Option (Res PV)}{f:Fn (List PV)}{Z:Rho}{Q:PV->Prop}{l r:List PV}(hf:f Z=some (.ok l))(e:m l=some (.ok (.lst r)))(st:r.all PV.still=true)(q:Q (.lst r)):Tv (Hy m f Z) Q:=by
 unfold Hy;exact⟨.lst r,by simp only[hf,bnd,e];rw[Zan st],q⟩
def cutD(b:Int)(s:StB):Dd:=.cut b s.1 s.2.1 s.2.2.1 s.2.2.2
theorem Qu(w b:Int):∀ (S:List StB) (W:Int->Nat),pr w W (S.map (cutD b))=[]
 |[],_=>rfl
 |_::S,W=>Qu w b S _
theorem Qv(w b:Int){c:Int}(h:c≠b):∀ (S:List StB) (W:Int->Nat),wd w W (S.map (cutD b)) c=W c
 |[],_=>rfl
 |s::S,W=>by
  show wd w (Vp w W (cutD b s)) (S.map (cutD b)) c=_
  rw[Qv w b h S];exact Zam h
theorem Qw(w b:Int)(p:Nat):∀ (S:List StB) (W:Int->Nat),(wd w W (S.map (cutD b)) b).testBit p=true↔(W b).testBit p=true/\∀ s∈S,(Mth.zV w.toNat (eG s.1 s.2.1 s.2.2.1 s.2.2.2)).testBit p=false
 |[],W=>by show(W b).testBit p=true↔_;simp
 |s::S,W=>by
  show(wd w (Vp w W (cutD b s)) (S.map (cutD b)) b).testBit p=true↔_
  rw[Qw w b p S];have:Vp w W (cutD b s) b=Ew (W b) (Mth.zV w.toNat (eG s.1 s.2.1 s.2.2.1 s.2.2.2)):=Zan rfl;rw[this,Ar];simp only[List.forall_mem_cons,ZbY,Bool.not_eq_true',and_assoc]
theorem ZG{row:Bool}{l f t x:Int}:∀ {c:Int×Int},c=cA row l x->f<=x->x<=t->c∈eG row l f t:=by
 rintro c rfl h1 h2;exact Zag.mpr ⟨(x-f).toNat,Zav.mpr (by omega),by rw[show f+((x-f).toNat:Int)=x by omega]⟩
theorem Vw{w h b:Int}{W:Int->Nat}{keep:Nat}{S:List StB}(lt:W b<2^(w.toNat*h.toNat))(sub:keep &&& W b=keep)(cv:Cov w h (Ew (W b) keep) keep S):wd w W (S.map (cutD b)) b=keep:=by
 have sb:∀ p,keep.testBit p=true->(W b).testBit p=true:=λp hp=>by
  rw[<-sub,Zcu,ZbY] at hp;exact hp.2
 refine Nat.eq_of_testBit_eq λp=>?_;rw[Zb6,Qw];constructor
 ·rintro⟨h1,h2⟩;have pl:p<w.toNat*h.toNat:=by
   by_cases q:p<w.toNat*h.toNat
   ·exact q
   ·rw[Nat.testBit_lt_two_pow (ZaH lt (Nat.pow_le_pow_right (by decide) (by omega)))] at h1;cases h1
  by_cases hk:keep.testBit p=true
  ·exact hk
  ·obtain⟨s,hs,q1,q2,q3⟩:=cv.all (Mth.cellOf w.toNat p) (Cell.of (Mth.yx pl)) (by rw[Mth.sX,Ar,h1];simpa using hk)
   have:=h2 s hs;rw[Mth.Oq,decide_eq_false_iff_not] at this;exact absurd ⟨_,ZG (by rw[<-q1,Yd]) q2 q3,Mth.sX _ _⟩ this
 ·intro hk;refine⟨sb p hk,λs hs=>?_⟩;rw[Mth.Oq,decide_eq_false_iff_not];rintro⟨c,hc,e⟩;obtain⟨i,hi,rfl⟩:=Zag.mp hc;have hi:=Zav.mp hi;have:=(cv.on s hs (s.2.2.1+(i:Int)) (by omega) (by omega)).2
  rw[e,hk] at this;cases this
theorem ZJ{w h:Int}{keep:Nat}{row:Bool}{c:Int×Int}(cl:Cell w h c.1 c.2)(no:keep.testBit (Mth.pl w.toNat c)=false):On w h row (lnOf row c) (runC w h keep row c).1 (runC w h keep row c).2:=by
 have r:=((yg (row:=row) cl no).run).1;have b1:=r.b1;have f0:=r.fr _ r.ab (Int.le_refl _);obtain⟨c0,c1,r0,r1⟩:=cl;unfold oZ at b1;cases row with
 |true=>exact⟨r0,r1,r.a0,r.ab,by have:(runC w h keep true c).2<(w.toNat:Int):=b1;show _<w;omega⟩
 |false=>exact⟨c0,c1,r.a0,r.ab,by have:(runC w h keep false c).2<(h.toNat:Int):=b1;show _<h;omega⟩
theorem Vx{st:List Nat}{A:List (Nat×Nat)}(hA:∀ a g,lk A a=some g->II.inN st g a){r:List Nat}(inc:r.Pairwise (·<·))(link:∀ t x y,r[t]?=some x->r[t+1]?=some y->lk A y=some x){x y:Nat}(hx:x∈r)(hy:y∈r)(h:x<y):II.inN st x y:=by
 obtain⟨i,hi⟩:=ZaW hx;obtain⟨j,hj⟩:=ZaW hy;have hij:i<j:=by
  by_cases q:i<j
  ·exact q
  ·by_cases e:i=j
   ·subst e;rw[hi] at hj;cases hj;omega
   ·obtain⟨hi',ei⟩:=Zac.mp hi;obtain⟨hj',ej⟩:=Zac.mp hj;have:=ZbR.mp inc j i hj' hi' (by omega)
    omega
 have go:∀ d y,r[i+1+d]?=some y->II.inN st x y:=λd=>by
  induction d with
  |zero=>exact λy hy=>hA _ _ (link i x y hi hy)
  |succ d ih=>
   intro y hy;have:i+1+d<r.length:=by have:=(Zac.mp hy).1;omega
   exact II.Vr (ih _ (Zae this)) (hA _ _ (link _ _ _ (Zae this) hy))
 exact go (j-i-1) y (by rw[show i+1+(j-i-1)=j by omega];exact hj)
def Bl(L:List (List Nat))(kv:List (Key×PV))(k:Nat):Prop:=∃ (b:Nat) (r:List Nat),cI kv (.inl (k:Int))=some (.int (b:Nat))/\L[b]?=some r/\k∈r
theorem RG{st:List Nat}(hl:st.length<=8):∃ (L:List (List Nat)) (A:List (Nat×Nat)) (t:PV) (kv:List (Key×PV)) (bl:Nat->Nat),cV [.lst (II.aW st)]=some (.ok (.tup [.lst (L.map II.DX),t]))/\II.Chs st.length A L/\(∀ a g,lk A a=some g->II.inN st g a) /\
  eF [.lst (II.aW st)]=some (.ok (.dk kv))/\∀ k,k<st.length->cI kv (.inl (k:Int))=some (.int (bl k:Nat))/\∃ r,L[bl k]?=some r/\k∈r:=by
 obtain⟨L,B,A,ef,_,ch,hA,_⟩:=II.RC (st:=st) (by omega)
 have lf:L.flatten.length<=8:=by
  have:=bT (k:=List.range st.length) ch.nd λx hx=>Zav.mpr ((ch.all x).mpr hx);rw[Zay] at this;omega
 suffices hs:∃ p,eF [.lst (II.aW st)]=some (.ok p)/\∃ kv:List (Key×PV),p=.dk kv/\∀ k∈L.flatten,Bl L kv k by
  obtain⟨p,e,kv,rfl,q⟩:=hs;refine⟨L,A,_,kv,λk=>match cI kv (.inl (k:Int)) with|some (.int b)=>b.toNat|_=>0,ef,ch,hA,e,λk hk=>?_⟩
  obtain⟨b,r,e1,e2,e3⟩:=q k ((ch.all k).mp hk);have eb:(match cI kv (.inl (k:Int)) with|some (.int b)=>b.toNat|_=>0)=b:=by rw[e1];rfl
  show cI kv (.inl (k:Int))=some (.int ((match cI kv (.inl (k:Int)) with|some (.int b)=>b.toNat|_=>0:Nat):Int))/\∃ r,L[(match cI kv (.inl (k:Int)) with|some (.int b)=>b.toNat|_=>0)]?=some r/\k∈r
  rw[eb];exact⟨e1,r,e2,e3⟩
 refine tQ (x:=gm (startR [.lst (II.aW st)] 4)) ?_;unfold gm;rw[show startR [.lst (II.aW st)] 4=[some (.sh (.lst (II.aW st))),none,none,none,none] from rfl];walk_at "rd"
 rw[ef];walk_at "rd"
 have tl:∀ i,(L.take i).flatten.length<=8:=λi=>by
  have:=Za3 (λl=>l.flatten.length) (List.take_append_drop i L);simp only[ZbX,ZaC] at this;omega
 refine De (λi Z=>∃ (kv:List (Key×PV)) (v2 v3 v4:Option Sl),Z=[some (.sh (.lst (II.aW st))),some (.ow (.dk kv)),v2,v3,v4]/\kv.length<=(L.take i).flatten.length/\∀ k∈(L.take i).flatten,Bl L kv k) ⟨[],none,none,none,rfl,by simp,by simp⟩ ?_ ?_
 ·rintro i x Z hx ⟨kv,v2,v3,v4,rfl,h1,h2⟩;rw[Zad] at hx;cases er:L[i]? with
  |none=>rw[er] at hx;cases hx
  |some r=>
   rw[er] at hx;cases hx;have lr:(L.take i).flatten.length+r.length<=8:=by
    have:=tl (i+1);rw[take_snoc er,ZbX,ZaC] at this;simpa using this
   unfold lY II.DX;walk_at "rd"
   refine dU (λj Z=>∃ (kv:List (Key×PV)) (v4:Option Sl),Z=[some (.sh (.lst (II.aW st))),some (.ow (.dk kv)),some (.sh (.int (i:Nat))),some (.sh (.lst (II.aW r))),v4]/\kv.length<=(L.take i).flatten.length+j/\∀ k∈(L.take i).flatten++r.take j,Bl L kv k) ⟨kv,v4,rfl,h1,by simpa using h2⟩ ?_ ?_
   ·rintro j x Z hx ⟨kv,v4,rfl,h1,h2⟩;obtain⟨g,hg,rfl⟩:=II.t7 hx;have gl:=(Zac.mp hg).1;unfold lX;walk_at "rd"
    refine⟨_,by rw[vG,Zan (bI (by omega))],iQ kv (.inl (g:Int)) _,_,rfl,ZaI (pO _ _ kv) (by omega),λk hk=>?_⟩
    unfold Bl;rw[nu];by_cases e:k=g
    ·subst e;rw[Zan rfl];exact⟨i,r,rfl,er,Zah hg⟩
    ·rw[Zam (by intro z;have:=Zb4 z;omega)]
     rw[take_snoc hg,<-Zby] at hk;rcases ZaK.mp hk with hk|hk
     ·exact h2 k hk
     ·exact absurd (Zbf.mp hk) e
   ·rintro Z ⟨kv,v4,rfl,h1,h2⟩;have ln:(II.aW r).length=r.length:=Zab _;rw[ln,ZcB] at h2;rw[ln] at h1;rw[turn_nx,take_snoc er,ZbX];exact⟨kv,_,_,_,rfl,by rw[ZaC];simpa using h1,by simpa using h2⟩
 ·rintro Z ⟨kv,v2,v3,v4,rfl,h1,h2⟩;unfold lZ;walk_at "rd"
  rw[Zab,ZcB] at h2;exact⟨_,rfl,h2⟩
theorem Xg(n m:Nat):Ew n m &&& m=0:=Nat.eq_of_testBit_eq λp=>by
 rw[Zcu,Ar,Nat.zero_testBit];cases n.testBit p<;>cases m.testBit p<;>rfl
def DY(l:List Dd):List Int:=(l.filter λd=>!d.Vo).map Dd.block
theorem K8(l m:List Dd):DY (l++m)=DY l++DY m:=by unfold DY;rw[ZcL,ZaJ]
theorem Gy(b:Int):∀ (S:List StB),DY (S.map (cutD b))=[]
 |[]=>rfl
 |_::S=>Gy b S
structure PP(w h:Int)(st:List Nat)(bl:Nat->Nat)(k:Nat)(plan:List Dd):Prop where
 pr:pr w (λ_=>jd w h) plan=(List.range k).map λ(j:Nat)=>((j:Int),st.getD j 0)
 len:plan.length<=64*k
 ok:∀ d∈plan,d.ok w h
 nums:DY plan=(List.range k).map λj=>((bl j:Nat):Int)
 lt:∀ b,wd w (λ_=>jd w h) plan b<2^(w.toNat*h.toNat)
 sub:∀ j,k<=j->j<st.length->st.getD j 0 &&& wd w (λ_=>jd w h) plan (bl j:Nat)=st.getD j 0
theorem PP.zero{w h:Int}{st:List Nat}{bl:Nat->Nat}(hs:∀ j,st.getD j 0<2^(w.toNat*h.toNat)):PP w h st bl 0 [] where
 pr:=rfl
 len:=Zal _
 ok:=λ_ h=>nomatch h
 nums:=rfl
 lt:=λb=>by show 2^(w.toNat*h.toNat)-1<_;have:=ZcW (n:=w.toNat*h.toNat) (show 0<2 by decide);omega
 sub:=λj _ _=>Zcf (hs j)
theorem PP.next{w h:Int}{st:List Nat}{bl:Nat->Nat}{k:Nat}{plan:List Dd}(P:PP w h st bl k plan)(hk:k<st.length)(hs:∀ j,st.getD j 0<2^(w.toNat*h.toNat))(ins:∀ i j,i<j->j<st.length->bl i=bl j->II.inN st i j){S:List StB}(cv:Cov w h (Ew (wd w (λ_=>jd w h) plan (bl k:Nat)) (st.getD k 0)) (st.getD k 0) S)(lS:S.length<64)(oS:∀ s∈S,On w h s.1 s.2.1 s.2.2.1 s.2.2.2):PP w h st bl (k+1) ((plan++S.map (cutD (bl k:Nat)))++[.prt (bl k:Nat) (k:Nat)]) /\
  ∀ b:Int,wd w (λ_=>jd w h) ((plan++S.map (cutD (bl k:Nat)))++[.prt (bl k:Nat) (k:Nat)]) b=if b=(bl k:Nat) then st.getD k 0 else wd w (λ_=>jd w h) plan b:=by
 have e1:=Vw (b:=(bl k:Nat)) (P.lt _) (P.sub k (Zal _) hk) cv;have ew:∀ b:Int,wd w (λ_=>jd w h) ((plan++S.map (cutD (bl k:Nat)))++[.prt (bl k:Nat) (k:Nat)]) b=if b=(bl k:Nat) then st.getD k 0 else wd w (λ_=>jd w h) plan b:=λb=>by
  rw[yV,yV];show wd w (wd w (λ_=>jd w h) plan) (S.map (cutD (bl k:Nat))) b=_
  by_cases e:b=(bl k:Nat)
  ·subst e;rw[Zan rfl,e1]
  ·rw[Zam e,Qv w _ e]
 refine⟨⟨?_,?_,?_,?_,?_,?_⟩,ew⟩
 ·rw[yW,yW,P.pr,Qu,Za1,Zcs,ZaJ,yV];show _++[((k:Int),wd w (wd w (λ_=>jd w h) plan) (S.map (cutD (bl k:Nat))) (bl k:Nat))]=_
  rw[e1];rfl
 ·have:=P.len;rw[ZaC,ZaC,Zab];show _+_+1<=_
  omega
 ·intro d hd;rcases ZaK.mp hd with hd|hd
  ·rcases ZaK.mp hd with hd|hd
   ·exact P.ok d hd
   ·obtain⟨s,hs,rfl⟩:=Zag.mp hd;exact⟨ZaU _,oS s hs⟩
  ·cases Zbf.mp hd;exact⟨ZaU _,ZaU _⟩
 ·rw[K8,K8,P.nums,Gy,Za1,Zcs,ZaJ];rfl
 ·intro b;rw[ew];by_cases e:b=(bl k:Nat)
  ·rw[Zan e];exact hs k
  ·rw[Zam e];exact P.lt b
 ·intro j h1 h2;rw[ew];by_cases e:((bl j:Nat):Int)=(bl k:Nat)
  ·rw[Zan e];exact ins k j (by omega) h2 (by omega)
  ·rw[Zam e];exact P.sub j (by omega) h2
theorem Qx{w h:Int}(sz:Sz w h)(w8:w<=8)(h8:h<=8){st:List Nat}(hl:st.length<=8)(hs:∀ j,st.getD j 0<2^(w.toNat*h.toNat)):∃ (plan:List Dd) (L:List (List Nat)) (A:List (Nat×Nat)) (t:PV) (bl:Nat->Nat),iB [.tup [.int w,.int h],.lst (II.aW st)]=some (.ok (.lst (plan.map Dd.p)))/\PP w h st bl st.length plan /\
  cV [.lst (II.aW st)]=some (.ok (.tup [.lst (L.map II.DX),t]))/\II.Chs st.length A L/\(∀ k,k<st.length->∃ r,L[bl k]?=some r/\k∈r)/\∀ i j,i<j->j<st.length->bl i=bl j->II.inN st i j:=by
 obtain⟨L,A,t,kb,bl,ef,ch,hA,eb,hb⟩:=RG hl;have ins:∀ i j,i<j->j<st.length->bl i=bl j->II.inN st i j:=λi j hij hj e=>by
  obtain⟨_,r,h1,h2⟩:=hb i (by omega)
  obtain⟨_,r',h3,h4⟩:=hb j hj;rw[e,h3] at h1;cases h1;have hr:=Zah h3;exact Vx hA (ch.inc _ hr) (ch.link _ hr) h2 h4 hij
 suffices hh:∃ p,iB [.tup [.int w,.int h],.lst (II.aW st)]=some (.ok p)/\∃ plan:List Dd,p=.lst (plan.map Dd.p)/\PP w h st bl st.length plan by
  obtain⟨p,e,plan,rfl,q⟩:=hh;exact⟨plan,L,A,t,bl,e,q,ef,ch,λk hk=>(hb k hk).2,ins⟩
 refine tQ (x:=tX (startR [.tup [.int w,.int h],.lst (II.aW st)] 7)) ?_;unfold tX;rw[show startR [.tup [.int w,.int h],.lst (II.aW st)] 7=[some (.sh (.tup [.int w,.int h])),some (.sh (.lst (II.aW st))),none,none,none,none,none,none,none] from rfl];walk_at "rd"
 rw[eb];walk_at "rd"
 refine De (λk Z=>∃ (plan:List Dd) (kv:List (Key×PV)) (v5 v6 v7 v8:Option Sl),Z=[some (.sh (.tup [.int w,.int h])),some (.sh (.lst (II.aW st))),some (.sh (.dk kb)),some (.ow (.dk kv)),some (.ow (.lst (plan.map Dd.p))),v5,v6,v7,v8]/\kv.length<=k/\(∀ b:Int,(cI kv (.inl b)).getD (.int (jd w h:Nat))=.int (wd w (λ_=>jd w h) plan b:Nat))/\PP w h st bl k plan) ⟨[],[],none,none,none,none,rfl,Zal _,λ_=>rfl,PP.zero hs⟩ ?_ ?_
 ·rintro k x Z hx ⟨plan,kv,v5,v6,v7,v8,rfl,h1,h2,P⟩;obtain⟨s,hg,rfl⟩:=II.t7 hx;have hk:=(Zac.mp hg).1;have es:st.getD k 0=s:=by rw[Zao,hg];rfl
  have pl:=P.len;have hw:=(hb k hk).1;unfold zM;walk_at "rd"
  refine⟨_,hw,?_⟩;walk_at "rd"
  rw[yU sz];walk_at "rd"
  rw[h2,tv_and',K1];obtain⟨S,T,eS,cv,lS,mS⟩:=Vl sz w8 h8 (Xg (wd w (λ_=>jd w h) plan (bl k:Nat)) s);have bits:=λp=>Ar (wd w (λ_=>jd w h) plan (bl k:Nat)) s p;have cut:∀ s'∈S,Dd.p (cutD (bl k:Nat) (toB s'))=.tup [.str (Str.ofString "cut"),.int (bl k:Nat),skP s']/\On w h (toB s').1 (toB s').2.1 (toB s').2.2.1 (toB s').2.2.2:=λs' hs'=>by
   obtain⟨row,x,hx,rfl⟩:=mS s' hs';obtain⟨cl,aw⟩:=nT hx;rw[bits,ZbY,Bool.not_eq_true'] at aw;rw[DR];exact⟨rfl,ZJ cl aw.2⟩
  refine ZF rfl (r:=S.map λs'=>Dd.p (cutD (bl k:Nat) (toB s'))) (eV ?_) (by rw[Zab,Zab];exact ZaB (bI (by omega))) ?_
  ·walk_at "rd"
   rw[eS];walk_at "rd"
   rw[tY skP (λs'=>Dd.p (cutD (bl k:Nat) (toB s'))) S λs' hs'=>by
    walk_at "rd"
    exact⟨by decide,(cut s' hs').1.symm⟩]
   walk_at "rd"
   rw[Zab];exact ZaB (bI (by omega))
  walk_at "rd"
  have eP:plan.map Dd.p++S.map (λs'=>Dd.p (cutD (bl k:Nat) (toB s')))++[.tup [.str (Str.ofString "print"),.int (bl k:Nat),.int (k:Nat)]]=((plan++(S.map toB).map (cutD (bl k:Nat)))++[Dd.prt (bl k:Nat) (k:Nat)]).map Dd.p:=by
   rw[ZaJ,ZaJ,ZaG,ZaG];rfl
  rw[eP];rw[<-es] at cv;obtain⟨P',ew⟩:=P.next hk hs ins cv (by rw[Zab];exact lS) λs' hs'=>by
   obtain⟨z,hz,rfl⟩:=Zag.mp hs';exact(cut z hz).2
  refine⟨by decide,by rw[ZaC,Zab,Zab];exact bI (by omega),_,by rw[vG,Zan (bI (by omega))],_,iQ kv (.inl ((bl k:Nat):Int)) _,_,_,_,_,rfl,ZaI (pO _ _ kv) (by omega),λb=>?_,P'⟩
  rw[nu,ew];by_cases e:b=(bl k:Nat)
  ·subst e;rw[Zan rfl,Zan rfl,es];rfl
  ·rw[Zam (by intro z;exact e (Zb4 z)),Zam e];exact h2 b
 ·rintro Z ⟨plan,kv,v5,v6,v7,v8,rfl,h1,h2,P⟩;unfold zN;walk_at "rd"
  rw[show(II.aW st).length=st.length from Zab _] at P;exact⟨_,rfl,P⟩
theorem Xh(c:Int):∃ w h:Int,lu [.int c]=some (.ok (.tup [.int w,.int h]))/\Sz w h/\w<=8/\h<=8:=by
 suffices hh:∃ p,lu [.int c]=some (.ok p)/\∃ w h:Int,p=.tup [.int w,.int h]/\Sz w h/\w<=8/\h<=8 by
  obtain⟨p,e,w,h,rfl,q⟩:=hh;exact⟨w,h,e,q⟩
 obtain⟨a,ea,a0,a1⟩:=jt c 3 (by decide)
 obtain⟨b,eb,b0,b1⟩:=jt c 4 (by decide)
 refine HD (x:=oY (startR [.int c] 1)) ?_;unfold oY;rw[show startR [.int c] 1=[some (.sh (.int c)),none] from rfl];walk_at "rd"
 rw[show(PV.int 3)=.int ((3:Nat):Int) from rfl,ea];walk_at "rd"
 rw[show(PV.int 4)=.int ((4:Nat):Int) from rfl,eb];walk_at "rd"
 refine⟨by decide,yw (λh=>?_) (λh=>?_)⟩
 ·unfold uP;walk_at "rd"
  have x0:=Zbb a (b:=8) (by decide)
  have x1:=ZaX a (b:=8) (by decide)
  have y0:=Zbb (a/8) (b:=8) (by decide)
  have y1:=ZaX (a/8) (b:=8) (by decide)
  exact⟨by decide,by decide,by decide,by decide,by decide,_,_,rfl,⟨by omega,by omega,by omega,by omega⟩,by omega,by omega⟩
 ·unfold uQ;walk_at "rd"
  have x0:=Zbb a (b:=6) (by decide)
  have x1:=ZaX a (b:=6) (by decide)
  have y0:=Zbb (a/6) (b:=6) (by decide)
  have y1:=ZaX (a/6) (b:=6) (by decide)
  exact⟨by decide,by decide,by decide,by decide,by decide,_,_,rfl,⟨by omega,by omega,by omega,by omega⟩,by omega,by omega⟩
theorem RJ(ns:List Int){w h:Int}(sz:Sz w h)(many:Nat)(hm:many<=8):∃ st:List Nat,jb [.lst (ns.map .int),.tup [.int w,.int h],.int many]=some (.ok (.lst (II.aW st)))/\st.length=many/\∀ s∈st,s<2^(w.toNat*h.toNat):=by
 suffices hh:∃ p,jb [.lst (ns.map .int),.tup [.int w,.int h],.int many]=some (.ok p)/\∃ st:List Nat,p=.lst (II.aW st)/\st.length=many/\∀ s∈st,s<2^(w.toNat*h.toNat) by
  obtain⟨p,e,st,rfl,q⟩:=hh;exact⟨st,e,q⟩
 refine tQ (x:=j8 (startR [.lst (ns.map .int),.tup [.int w,.int h],.int many] 5)) ?_;unfold j8;rw[show startR [.lst (ns.map .int),.tup [.int w,.int h],.int many] 5=[some (.sh (.lst (ns.map .int))),some (.sh (.tup [.int w,.int h])),some (.sh (.int many)),none,none,none,none,none] from rfl];walk_at "rd"
 rw[II.p7];refine⟨by omega,by omega,?_⟩
 refine dU (λi Z=>∃ (st:List Nat) (v4 v5 v6 v7:Option Sl),Z=[some (.sh (.lst (ns.map .int))),some (.sh (.tup [.int w,.int h])),some (.sh (.int many)),some (.ow (.lst (II.aW st))),v4,v5,v6,v7]/\st.length=i/\∀ s∈st,s<2^(w.toNat*h.toNat)) ⟨[],none,none,none,none,rfl,rfl,by simp⟩ ?_ ?_
 ·rintro i x Z hx ⟨st,v4,v5,v6,v7,rfl,sl,sb⟩;rw[Zad] at hx;cases hr:(List.range many)[i]? with
  |none=>rw[hr] at hx;cases hx
  |some j=>
   rw[hr] at hx;cases hx;obtain⟨hi,ej⟩:=Zac.mp hr;rw[Zay] at hi;rw[List.getElem_range] at ej;subst ej;obtain⟨c,ec⟩:=yS ns (3+i) (by omega)
   obtain⟨s,es,s2⟩:=Vm sz c i (by omega)
   obtain⟨q,eq,q0,q1⟩:=jt c 301 (by decide)
   obtain⟨r,er,r0,r1⟩:=jt c 302 (by decide)
   unfold qQ;walk_at "rd"
   rw[show(3+(i:Int))=((3+i:Nat):Int) by push_cast;rfl,ec]
   walk_at "rd"
   rw[es];walk_at "rd"
   rw[show(PV.int 301)=.int ((301:Nat):Int) from rfl,eq];walk_at "rd"
   have er:bJ [.int c,.int 302]=_:=er;have fin3:∀ (m:Nat) (QS:Out->Prop),m<2^(w.toNat*h.toNat)->To (lJ [some (.sh (.lst (ns.map .int))),some (.sh (.tup [.int w,.int h])),some (.sh (.int many)),some (.ow (.lst (II.aW st))),some (.sh (.int i)),some (.sh (.int c)),some (.sh (.int m)),some (.sh (.int (q%4)))]) (turn (λZ=>∃ (st:List Nat) (v4 v5 v6 v7:Option Sl),Z=[some (.sh (.lst (ns.map .int))),some (.sh (.tup [.int w,.int h])),some (.sh (.int many)),some (.ow (.lst (II.aW st))),v4,v5,v6,v7]/\st.length=i+1/\∀ s∈st,s<2^(w.toNat*h.toNat)) QS):=λm QS hm=>by
    unfold lJ;walk_at "rd"
    rw[II.t8];refine⟨by unfold II.aW;rw[Zab];exact bI (by omega),st++[m],_,_,_,_,rfl,by rw[ZaC,sl];rfl,λs hs=>?_⟩
    rcases ZaK.mp hs with hs|hs
    ·exact sb s hs
    ·cases Zbf.mp hs;exact hm
   have pk:0<(i:Int)->∃ t:Nat,atI (II.aW st) (r%(i:Int))=some (.int t)/\t<2^(w.toNat*h.toNat):=λhi=>by
    have z0:0<=r%(i:Int):=Zbb _ (by omega)
    have z1:=ZaX r hi;obtain⟨k,ek⟩:=Za2 z0;rw[ek] at z1 ⊢;have kl:k<st.length:=by omega
    exact⟨st[k],II.p6 (Zae kl),sb _ (ZbZ kl)⟩
   have fin4:∀ (m:Nat) (QS:Out->Prop),m<2^(w.toNat*h.toNat)->To (lK [some (.sh (.lst (ns.map .int))),some (.sh (.tup [.int w,.int h])),some (.sh (.int many)),some (.ow (.lst (II.aW st))),some (.sh (.int i)),some (.sh (.int c)),some (.sh (.int m)),some (.sh (.int (q%4)))]) (turn (λZ=>∃ (st:List Nat) (v4 v5 v6 v7:Option Sl),Z=[some (.sh (.lst (ns.map .int))),some (.sh (.tup [.int w,.int h])),some (.sh (.int many)),some (.ow (.lst (II.aW st))),v4,v5,v6,v7]/\st.length=i+1/\∀ s∈st,s<2^(w.toNat*h.toNat)) QS):=λm QS hm=>by
    unfold lK;walk_at "rd"
    refine yw (λi0=>yw (λ_=>?_) (λ_=>fin3 m QS hm)) (λ_=>fin3 m QS hm);obtain⟨t,et,tl⟩:=pk i0;unfold qP;walk_at "rd"
    rw[er];walk_at "rd"
    exact⟨i0,_,et,fin3 t QS tl⟩
   refine⟨by decide,yw (λi0=>yw (λ_=>?_) (λ_=>fin4 s _ s2)) (λ_=>fin4 s _ s2)⟩
   obtain⟨t,et,tl⟩:=pk i0;unfold qO;walk_at "rd"
   rw[er];walk_at "rd"
   refine⟨i0,_,et,?_⟩;rw[tv_and',sI];exact fin4 _ _ (Zbr Nat.and_le_left s2)
 ·rintro Z ⟨st,v4,v5,v6,v7,rfl,sl,sb⟩;unfold qR;walk_at "rd"
  exact⟨st,rfl,by rw[sl,Zab,Zay],sb⟩
def HI(L:List (List Nat))(k m:Nat):Prop:=m<=L.length/\∀ b r,L[b]?=some r->(b<m↔r.headD 0<k)
theorem Xi{n:Nat}{A:List (Nat×Nat)}{L:List (List Nat)}(ch:II.Chs n A L){k b m:Nat}{r:List Nat}(hr:L[b]?=some r)(hk:k∈r)(h:HI L k m):(b<m/\HI L (k+1) m)\/(b=m/\HI L (k+1) (m+1)):=by
 have hd:∀ {b b':Nat}{r r':List Nat},L[b]?=some r->L[b']?=some r'->b<b'->r.headD 0<r'.headD 0:=λ{b b' r r'} h1 h2 hb=>by
  obtain⟨l1,e1⟩:=Zac.mp h1;obtain⟨l2,e2⟩:=Zac.mp h2;have:=ZbR.mp ch.hd b b' (by rw[Zab];exact l1) (by rw[Zab];exact l2) hb
  rw[List.getElem_map,List.getElem_map,e1,e2] at this;exact this
 have dis:∀ {b b':Nat}{r r':List Nat},L[b]?=some r->L[b']?=some r'->k∈r->k∈r'->¬b<b':=λ{b b' r r'} h1 h2 k1 k2 hb=>by
  obtain⟨l1,e1⟩:=Zac.mp h1;obtain⟨l2,e2⟩:=Zac.mp h2;have:=ZbR.mp (List.pairwise_flatten.mp ch.nd).2 b b' l1 l2 hb k (by rw[e1];exact k1) k (by rw[e2];exact k2)
  exact this rfl
 have same:∀ {b':Nat}{r':List Nat},L[b']?=some r'->r'.headD 0=k->b'=b:=λ{b' r'} h1 e=>by
  have kr:k∈r':=by rw[<-e];exact II.uc (ch.ne _ (Zah h1))
  have:=dis hr h1 hk kr;have:=dis h1 hr kr hk;omega
 obtain⟨h1,h2⟩:=h;by_cases lt:b<m
 ·refine .inl ⟨lt,h1,λb' r' hb=>?_⟩;have:=h2 b' r' hb;by_cases e:r'.headD 0=k
  ·have:=same hb e;omega
  ·omega
 ·have hle:r.headD 0<=k:=by
   have:=ch.inc _ (Zah hr);cases r with
   |nil=>cases hk
   |cons a r=>
    rcases ZaA.mp hk with e|e
    ·exact Zc1 e.symm
    ·exact ZaB ((Zbu.mp this).1 k e)
  have hb:=(Zac.mp hr).1;have:=h2 b r hr;have eb:b=m:=by
   by_cases q:m<b
   ·have l1:L[m]?=some (L[m]'(by omega)):=Zae _
    have:=hd l1 hr q;have:=h2 m _ l1;omega
   ·omega
  refine .inr ⟨eb,by omega,λb' r' hb'=>?_⟩
  have:=h2 b' r' hb';by_cases e:r'.headD 0=k
  ·have:=same hb' e;omega
  ·by_cases q:b'=m
   ·subst q eb;rw[hr] at hb';cases hb';omega
   ·omega
theorem Qy(l:List Dd):eqF 32 (.lst (l.map Dd.p)) (.lst (l.map Dd.p))=some true:=Dv (n:=31) λp hp=>by
 obtain⟨d,_,rfl⟩:=Zag.mp hp;cases d with
 |cut b row ln f t=>
  refine yc (n:=30) λy hy=>?_;simp only[ZaA,ZbB,or_false] at hy;rcases hy with rfl|rfl|rfl
  ·exact Dw _ _
  ·exact jc _ _
  ·refine yc (n:=29) λz hz=>?_;simp only[ZaA,ZbB,or_false] at hz;rcases hz with rfl|rfl|rfl|rfl
   ·exact Dw _ _
   ·exact jc _ _
   ·exact jc _ _
   ·exact jc _ _
 |prt b i=>
  refine yc (n:=30) λy hy=>?_;simp only[ZaA,ZbB,or_false] at hy;rcases hy with rfl|rfl|rfl
  ·exact Dw _ _
  ·exact jc _ _
  ·exact jc _ _
theorem Gz(l:List Nat):eqF 32 (.lst (II.aW l)) (.lst (II.aW l))=some true:=Dv (n:=31) λp hp=>by
 obtain⟨n,_,rfl⟩:=Zag.mp hp;exact jc _ _
theorem Vy(l:List (Int×Nat)):eqF 32 (.lst (l.map yh)) (.lst (l.map yh))=some true:=Dv (n:=31) λp hp=>by
 obtain⟨n,_,rfl⟩:=Zag.mp hp;refine yc (n:=30) λy hy=>?_;simp only[ZaA,ZbB,or_false] at hy;rcases hy with rfl|rfl
 ·exact jc _ _
 ·exact jc _ _
theorem Xj{w h:Int}(sz:Sz w h):(1*2^(w*h).toNat-1:Int)=((jd w h:Nat):Int):=by
 unfold jd;rw[sz.nat.1];have:0<2^(w*h).toNat:=ZcW (by decide)
 rw[Int.one_mul,show((2:Int)^(w*h).toNat)=((2^(w*h).toNat:Nat):Int) by norm_cast]
 omega
theorem law_main(ns:List Int)(hn:ns.length<=63):Gm [.lst (ns.map .int)]=some (.ok (.bl true)):=by
 obtain⟨c1,e1⟩:=yS ns 1 (by decide)
 obtain⟨c2,e2⟩:=yS ns 2 (by decide)
 obtain⟨w,h,es,sz,w8,h8⟩:=Xh c1;obtain⟨q,eq,q0,q1⟩:=jt c2 1 (by decide)
 have e1:dJ [.lst (ns.map .int),.int 1]=_:=e1;have e2:dJ [.lst (ns.map .int),.int 2]=_:=e2;have eq:bJ [.int c2,.int 1]=_:=eq;have m0:=Zbb q (b:=8) (by decide)
 have m1:=ZaX q (b:=8) (by decide)
 obtain⟨st,et,sl,sb⟩:=RJ ns sz (1+q%8).toNat (by lia)
 rw[Zbx (by lia)] at et
 have hl:st.length<=8:=by lia
 have hs:∀ j,st.getD j 0<2^(w.toNat*h.toNat):=λj=>by
  by_cases hj:j<st.length
  ·rw[Zao,Zae hj];exact sb _ (ZbZ hj)
  ·rw[Zao,ZaR (by lia)];exact ZcW (by decide)
 obtain⟨plan,L,A,t,bl,ep,P,ef,ch,hb,ins⟩:=Qx sz w8 h8 hl hs;have gs:∀ {j:Nat},j<st.length->atI (II.aW st) (j:Int)=some (.int ((st.getD j 0:Nat):Int)):=λ{j} hj=>II.p6 (by rw[Zao,Zae hj];rfl)
 have ln:(II.aW st).length=st.length:=Zab _;have pl:=P.len;have lL:L.length<=8:=by
  have:=bT (l:=L.map λr=>r.headD 0) (k:=List.range st.length) (List.Pairwise.imp (λ{a b} (h:a<b)=>ZaE h) ch.hd) λx hx=>by
   obtain⟨r,hr,rfl⟩:=Zag.mp hx;exact Zav.mpr ((ch.all _).mpr (Zcm.mpr ⟨r,hr,II.uc (ch.ne r hr)⟩))
  rw[Zab,Zay] at this;lia
 refine fX (x:=Qf (startR [.lst (ns.map .int)] 11)) ?_;unfold Qf;rw[show startR [.lst (ns.map .int)] 11=[some (.sh (.lst (ns.map .int))),none,none,none,none,none,none,none,none,none,none,none] from rfl];walk_at "rd"
 rw[e1];walk_at "rd"
 rw[es];walk_at "rd"
 rw[e2];walk_at "rd"
 rw[eq];walk_at "rd"
 rw[et];walk_at "rd"
 rw[ep];walk_at "rd"
 refine⟨by decide,true,Gz st,?_⟩
 rw[Zam (by decide)]
 refine⟨true,Qy plan,?_⟩;rw[Zam (by decide)]
 unfold Kw;walk_at "rd"
 have inc:(sJ plan).Pairwise (·<·):=by
  rw[<-yj w plan (λ_=>jd w h),P.pr,ZaG,Zbd];exact List.pairwise_lt_range.imp λ{a b} h=>by show(a:Int)<(b:Int);lia
 refine Vv (eV (by walk_at "rd")) (ZD sz plan (by lia) P.ok inc) (ZaP.mpr λp hp=>by obtain⟨x,_,rfl⟩:=Zag.mp hp;rfl) ?_
 rw[ln,II.p7,tY (λ(i:Nat)=>PV.int (i:Int)) (λj=>yh ((j:Int),st.getD j 0)) (List.range st.length) λj hj=>by
  walk_at "rd"
  exact⟨_,gs (Zav.mp hj),by decide,rfl⟩]
 have eR:(pr w (λ_=>jd w h) plan).map yh=(List.range st.length).map λ(j:Nat)=>yh ((j:Int),st.getD j 0):=by rw[P.pr,ZaG];rfl
 rw[<-eR];refine⟨by lia,by lia,by rw[Zab,Zay];exact ZaB (bI (by lia)),?_⟩
 rw[tv_some];refine⟨true,Vy _,?_⟩;rw[Zam (by decide)]
 unfold Kv;walk_at "rd"
 have eN:((plan.filter λd=>!d.Vo).map λd=>PV.int d.block)=II.aW ((List.range st.length).map bl):=by
  have:=Za3 (List.map PV.int) P.nums;unfold DY at this;rw[ZaG,ZaG] at this;unfold II.aW;rw[ZaG];exact this
 rw[Qg Dd.p (λd=>.int d.block) (λd=>!d.Vo) plan (λd _=>by
  cases d<;>unfold Dd.p<;>walk_at "rd"<;>rfl) (λd _ hd=>by
  cases d<;>unfold Dd.p<;>walk_at "rd"<;>rfl),eN]
 refine⟨by rw[Zab];exact ZaB (bI (by lia)),?_⟩
 rw[tv_some];have lb:(II.aW ((List.range st.length).map bl)).length=st.length:=by unfold II.aW;rw[Zab,Zab,Zay]
 refine dU (λi Z=>∃ (m:Nat) (v7:Option Sl),Z=[some (.sh (.lst (ns.map .int))),some (.sh (.tup [.int w,.int h])),some (.sh (.lst (II.aW st))),some (.sh (.lst (II.aW st))),some (.ow (.lst (plan.map Dd.p))),some (.sh (.lst (II.aW ((List.range st.length).map bl)))),some (.ow (.lst (II.aW (List.range m)))),v7,none,none,none,none]/\HI L i m) ⟨0,none,rfl,Za7 _,λb r _=>by simp⟩ ?_ ?_
 ·rintro i x Z hx ⟨m,v7,rfl,hm⟩;obtain⟨g,hg,rfl⟩:=II.t7 hx;have il:i<st.length:=by have:=(Zac.mp hx).1;rw[lb] at this;exact this
  rw[Zad,Za4 il] at hg;cases hg;obtain⟨r,hr,hk⟩:=hb i il;have bL:=(Zac.mp hr).1;have eI:inU (.int (bl i:Nat)) (.lst (II.aW (List.range m)))=some (decide (bl i<m)):=by
   have:II.aW (List.range m)=((List.range m).map λ(n:Nat)=>(n:Int)).map PV.int:=by unfold II.aW;rw[ZaG];rfl
   rw[this,II.K6];by_cases q:bl i<m
   ·rw[ZaF q,Zbh.mpr (Zag.mpr ⟨_,Zav.mpr q,rfl⟩)]
   ·rw[ZaM q];refine Za3 some (Bool.eq_false_iff.mpr λz=>?_);obtain⟨n,hn,e⟩:=Zag.mp (Zbh.mp z);have:=Zav.mp hn;lia
  unfold Qa;walk_at "rd"
  refine⟨_,eI,?_⟩;rcases Xi ch hr hk hm with⟨lt,h'⟩|⟨e,h'⟩
  ·rw[Zam (by simpa using lt)]
   exact⟨m,_,rfl,h'⟩
  ·subst e;rw[Zan (by simp)]
   unfold PQ;walk_at "rd"
   rw[II.t8,<-Zcs];exact⟨by unfold II.aW;rw[Zab,Zay];exact bI (by lia),_,_,rfl,h'⟩
 ·rintro Z ⟨m,v7,rfl,hm⟩;have em:m=L.length:=by
   rw[lb] at hm;by_cases q:m<L.length
   ·have l1:L[m]?=some (L[m]'q):=Zae _;have hd:=II.uc (ch.ne _ (Zah l1));have:=(hm.2 m _ l1).mpr ((ch.all _).mpr (Zcm.mpr ⟨_,Zah l1,hd⟩));lia
   ·have:=hm.1;lia
  subst em;unfold Ku;walk_at "rd"
  rw[ef];walk_at "rd"
  rw[Zab,ZaD];refine⟨by lia,by lia,true,Gz _,?_⟩
  rw[Zam (by decide)]
  unfold Ks;walk_at "rd"
  rw[ln,II.p7];refine⟨by lia,by lia,?_⟩
  refine dU (λi Z=>∃ (kv:List (Key×PV)) (V:Int->Nat) (v9 v10:Option Sl),Z=[some (.sh (.lst (ns.map .int))),some (.sh (.tup [.int w,.int h])),some (.sh (.lst (II.aW st))),some (.sh (.lst (II.aW st))),some (.ow (.lst (plan.map Dd.p))),some (.sh (.lst (II.aW ((List.range st.length).map bl)))),some (.ow (.lst (II.aW (List.range L.length)))),v7,some (.ow (.dk kv)),v9,v10,none]/\kv.length<=i/\(∀ b:Int,(cI kv (.inl b)).getD (.int (jd w h:Nat))=.int (V b:Nat))/\∀ j,i<=j->j<st.length->st.getD j 0 &&& V (bl j:Nat)=st.getD j 0) ⟨[],λ_=>jd w h,none,none,rfl,Zal _,λ_=>rfl,λj _ _=>Zcf (hs j)⟩ ?_ ?_
  ·rintro i x Z hx ⟨kv,V,v9,v10,rfl,h1,h2,h3⟩;have il:i<st.length:=by have:=(Zac.mp hx).1;rw[Zab,Zay] at this;exact this
   rw[Zad,Za4 il] at hx;cases hx;have gb:atI (II.aW ((List.range st.length).map bl)) (i:Int)=some (.int (bl i:Nat)):=II.p6 (by rw[Zad,Za4 il];rfl)
   unfold Qd;walk_at "rd"
   have hm:=sz.mul;rw[Xj sz];refine⟨_,gb,.inl ⟨by have:=sz.w0;have:=sz.w1;lia,by have:=sz.w0;have:=sz.w1;lia⟩,by lia,by lia,by decide,_,dF_int,_,gs il,?_⟩
   rw[h2,tv_and',sI,h3 i (Zal _) il];refine⟨_,gs il,true,jc _ _,?_⟩;rw[Zam (by decide)]
   unfold Qc;walk_at "rd"
   refine⟨_,gs il,_,gb,_,by rw[vG,Zan (bI (by lia))],iQ kv (.inl ((bl i:Nat):Int)) _,λb=>if b=(bl i:Nat) then st.getD i 0 else V b,_,_,rfl,ZaI (pO _ _ kv) (by lia),λb=>?_,λj h4 h5=>?_⟩
   ·rw[nu];show _=PV.int ((if b=(bl i:Nat) then st.getD i 0 else V b:Nat):Int)
    by_cases e:b=(bl i:Nat)
    ·subst e;rw[Zan rfl,Zan rfl];rfl
    ·rw[Zam (by intro z;exact e (Zb4 z)),Zam e];exact h2 b
   ·show st.getD j 0 &&& (if((bl j:Nat):Int)=(bl i:Nat) then st.getD i 0 else V (bl j:Nat))=_
    by_cases e:((bl j:Nat):Int)=(bl i:Nat)
    ·rw[Zan e];exact ins i j (by lia) h5 (by lia)
    ·rw[Zam e];exact h3 j (by lia) h5
  ·rintro Z ⟨kv,V,v9,v10,rfl,h1,h2,h3⟩;obtain⟨plan0,_,_,_,_,ep0,P0,_⟩:=Qx (st:=[]) sz w8 h8 (by decide) (λj=>ZcW (by decide))
   have:plan0=[]:=List.eq_nil_of_length_eq_zero (Nat.le_zero.mp P0.len);subst this;unfold Qe;walk_at "rd"
   rw[ep];walk_at "rd"
   rw[show iB [.tup [.int w,.int h],.lst []]=some (.ok (.lst [])) from ep0];walk_at "rd"
   refine⟨by rw[Zab];exact bI (by lia),true,Qy plan,?_⟩
   rw[Zan rfl];exact⟨true,rfl,rfl⟩
def top(i:Nat):Stmt:=PySem.Challenge.pw_lostblock_k35_whole_plan_prints_states.main.body.getD i (.Pass ⟨0,0,0,0⟩)
def eD(P:Params)(x:Str)(t:Tok)(v:Value):DictEntry:={ hash:=PyData.keyHash P x,key:=.str x t,val:=v }
def fO(n:Str)(i:Nat)(pm:Value)(c:Nat):Obj:={ cls:=.type "function",data:=.func (fnOf n n (bz (top i)) (bw (top i)) (aG (top i)) .none .none .none pm none (.ref c) .none) }
def cO(n:Str)(t1 t2 t3:Tok)(l k:Int)(a:Nat)(m:Int)(b:Nat)(u v:Value)(c:Nat)(z:Int)(t4:Tok):Obj:={ cls:=.type "code",data:=.fields #[.str n t1,.str n t2,.str "/claim/cut.py" t3,.int l 0,.int k 0,.int 0 0,.int 0 0,.int 3 0,.ref a,.bool true,.int m 0,.ref b,.none,u,v,.ref c,.int z 0,.int l 0,.str "/claim/cut.py" t4] }
def KK:Params->Frag:=λP=>(nat_lit 3,{ cls:=.type "dict",data:=.dict #[eD P "__name__" 165 (.str "law_lostblock_k35_whole_plan_prints_states" 550),eD P "__doc__" 166 .none,eD P "__package__" 167 .none,eD P "__loader__" 168 (.builtin "__main__.__loader__#opaque"),eD P "__spec__" 169 .none,eD P "__annotations__" 170 (.ref 6),eD P "__builtins__" 171 (.ref 4),eD P "__file__" 173 (.str "/claim/cut.py" 172),eD P "__cached__" 174 .none,eD P "BlockError" 206 (.ref 24),eD P "Kept" 233 (.ref 44),eD P "NoDeed" 258 (.ref 63),eD P "is_whole" 267 (.ref 72),eD P "place_of" 275 (.ref 79),eD P "has_cell" 284 (.ref 86),eD P "all_cells" 290 (.ref 91),eD P "all_of" 297 (.ref 98),eD P "set_of" 307 (.ref 105),eD P "cells_of" 313 (.ref 110),eD P "within" 321 (.ref 117),eD P "walked" 337 (.ref 124),eD P "pair_anew" 350 (.ref 131),eD P "most_pairs" 361 (.ref 138),eD P "short_of_givers" 367 (.ref 143),eD P "states_ahead" 375 (.ref 148),eD P "chains_by" 386 (.ref 155),eD P "fewest_blocks" 392 (.ref 160),eD P "ROW" 396 (.str "row" 395),eD P "COLUMN" 398 (.str "column" 397),eD P "is_stroke" 404 (.ref 165),eD P "lines_of" 412 (.ref 172),eD P "length_of" 420 (.ref 179),eD P "lies_on" 428 (.ref 186),eD P "stroke_cells" 434 (.ref 191),eD P "cells_cut" 442 (.ref 198),eD P "longest_strokes" 448 (.ref 203),eD P "longest_by_cell" 461 (.ref 210),eD P "crossings" 474 (.ref 217),eD P "fewest_strokes" 480 (.ref 222),eD P "CUT" 484 (.str "cut" 483),eD P "PRINT" 486 (.str "print" 485),eD P "is_number" 493 (.ref 229),eD P "is_deed" 501 (.ref 236),eD P "can_follow" 510 (.ref 243),eD P "replayed_with" 524 (.ref 250),eD P "replayed" 532 (.ref 257),eD P "blocks_by_state" 543 (.ref 264),eD P "plan_of" 549 (.ref 269),eD P "_law_cell" 560 (.ref 276),eD P "_law_mixed" 569 (.ref 283),eD P "_law_size" 577 (.ref 290),eD P "_law_set" 590 (.ref 297),eD P "_law_states" 604 (.ref 304),eD P "law" 610 (.ref 309)] 54 })::(nat_lit 71,cO "is_whole" 261 262 263 14 1 66 181 67 (.ref 68) (.ref 69) 70 265 266)::(nat_lit 72,fO "is_whole" 5 (.str "lostblock.boards" 259) 71)::(nat_lit 78,cO "place_of" 268 269 270 16 2 73 181 74 (.ref 75) (.ref 76) 77 273 274)::(nat_lit 79,fO "place_of" 6 (.str "lostblock.boards" 259) 78)::(nat_lit 85,cO "has_cell" 276 277 278 18 3 80 181 81 (.ref 82) (.ref 83) 84 282 283)::(nat_lit 86,fO "has_cell" 7 (.str "lostblock.boards" 259) 85)::(nat_lit 90,cO "all_cells" 285 286 287 20 1 87 181 88 .none .none 89 288 289)::(nat_lit 91,fO "all_cells" 8 (.str "lostblock.boards" 259) 90)::(nat_lit 97,cO "all_of" 291 292 293 22 1 92 181 93 (.ref 94) (.ref 95) 96 295 296)::(nat_lit 98,fO "all_of" 9 (.str "lostblock.boards" 259) 97)::(nat_lit 104,cO "set_of" 298 299 300 24 2 99 181 100 (.ref 101) (.ref 102) 103 305 306)::(nat_lit 105,fO "set_of" 10 (.str "lostblock.boards" 259) 104)::(nat_lit 109,cO "cells_of" 308 309 310 29 2 106 181 107 .none .none 108 311 312)::(nat_lit 110,fO "cells_of" 11 (.str "lostblock.boards" 259) 109)::(nat_lit 116,cO "within" 314 315 316 31 2 111 181 112 (.ref 113) (.ref 114) 115 319 320)::(nat_lit 117,fO "within" 12 (.str "lostblock.boards" 259) 116)::(nat_lit 123,cO "walked" 324 325 326 34 3 118 181 119 (.ref 120) (.ref 121) 122 335 336)::(nat_lit 124,fO "walked" 14 (.str "lostblock.matching" 322) 123)::(nat_lit 130,cO "pair_anew" 338 339 340 49 4 125 181 126 (.ref 127) (.ref 128) 129 348 349)::(nat_lit 131,fO "pair_anew" 15 (.str "lostblock.matching" 322) 130)::(nat_lit 137,cO "most_pairs" 351 352 353 57 1 132 181 133 (.ref 134) (.ref 135) 136 359 360)::(nat_lit 138,fO "most_pairs" 16 (.str "lostblock.matching" 322) 137)::(nat_lit 142,cO "short_of_givers" 362 363 364 64 2 139 181 140 .none .none 141 365 366)::(nat_lit 143,fO "short_of_givers" 17 (.str "lostblock.matching" 322) 142)::(nat_lit 147,cO "states_ahead" 370 371 372 69 2 144 181 145 .none .none 146 373 374)::(nat_lit 148,fO "states_ahead" 19 (.str "lostblock.chains" 368) 147)::(nat_lit 154,cO "chains_by" 376 377 378 71 2 149 181 150 (.ref 151) (.ref 152) 153 384 385)::(nat_lit 155,fO "chains_by" 20 (.str "lostblock.chains" 368) 154)::(nat_lit 159,cO "fewest_blocks" 387 388 389 82 1 156 181 157 .none .none 158 390 391)::(nat_lit 160,fO "fewest_blocks" 21 (.str "lostblock.chains" 368) 159)::(nat_lit 164,cO "is_stroke" 399 400 401 91 1 161 181 162 .none .none 163 402 403)::(nat_lit 165,fO "is_stroke" 25 (.str "lostblock.strokes" 393) 164)::(nat_lit 171,cO "lines_of" 405 406 407 97 2 166 181 167 (.ref 168) (.ref 169) 170 410 411)::(nat_lit 172,fO "lines_of" 26 (.str "lostblock.strokes" 393) 171)::(nat_lit 178,cO "length_of" 413 414 415 99 2 173 181 174 (.ref 175) (.ref 176) 177 418 419)::(nat_lit 179,fO "length_of" 27 (.str "lostblock.strokes" 393) 178)::(nat_lit 185,cO "lies_on" 421 422 423 101 2 180 181 181 (.ref 182) (.ref 183) 184 426 427)::(nat_lit 186,fO "lies_on" 28 (.str "lostblock.strokes" 393) 185)::(nat_lit 190,cO "stroke_cells" 429 430 431 105 1 187 181 188 .none .none 189 432 433)::(nat_lit 191,fO "stroke_cells" 29 (.str "lostblock.strokes" 393) 190)::(nat_lit 197,cO "cells_cut" 435 436 437 109 2 192 181 193 (.ref 194) (.ref 195) 196 440 441)::(nat_lit 198,fO "cells_cut" 30 (.str "lostblock.strokes" 393) 197)::(nat_lit 202,cO "longest_strokes" 443 444 445 111 4 199 181 200 .none .none 201 446 447)::(nat_lit 203,fO "longest_strokes" 31 (.str "lostblock.strokes" 393) 202)::(nat_lit 209,cO "longest_by_cell" 449 450 451 116 3 204 181 205 (.ref 206) (.ref 207) 208 459 460)::(nat_lit 210,fO "longest_by_cell" 32 (.str "lostblock.strokes" 393) 209)::(nat_lit 216,cO "crossings" 462 463 464 123 3 211 181 212 (.ref 213) (.ref 214) 215 472 473)::(nat_lit 217,fO "crossings" 33 (.str "lostblock.strokes" 393) 216)::(nat_lit 221,cO "fewest_strokes" 475 476 477 130 3 218 181 219 .none .none 220 478 479)::(nat_lit 222,fO "fewest_strokes" 34 (.str "lostblock.strokes" 393) 221)::(nat_lit 228,cO "is_number" 487 488 489 143 1 223 181 224 (.ref 225) (.ref 226) 227 491 492)::(nat_lit 229,fO "is_number" 38 (.str "lostblock.plans" 481) 228)::(nat_lit 235,cO "is_deed" 494 495 496 145 2 230 181 231 (.ref 232) (.ref 233) 234 499 500)::(nat_lit 236,fO "is_deed" 39 (.str "lostblock.plans" 481) 235)::(nat_lit 242,cO "can_follow" 502 503 504 153 3 237 181 238 (.ref 239) (.ref 240) 241 508 509)::(nat_lit 243,fO "can_follow" 40 (.str "lostblock.plans" 481) 242)::(nat_lit 249,cO "replayed_with" 511 512 513 157 3 244 181 245 (.ref 246) (.ref 247) 248 522 523)::(nat_lit 250,fO "replayed_with" 41 (.str "lostblock.plans" 481) 249)::(nat_lit 256,cO "replayed" 525 526 527 171 2 251 181 252 (.ref 253) (.ref 254) 255 530 531)::(nat_lit 257,fO "replayed" 42 (.str "lostblock.plans" 481) 256)::(nat_lit 263,cO "blocks_by_state" 533 534 535 173 1 258 181 259 (.ref 260) (.ref 261) 262 541 542)::(nat_lit 264,fO "blocks_by_state" 43 (.str "lostblock.plans" 481) 263)::(nat_lit 268,cO "plan_of" 544 545 546 179 2 265 181 266 .none .none 267 547 548)::(nat_lit 269,fO "plan_of" 44 (.str "lostblock.plans" 481) 268)::(nat_lit 275,cO "_law_cell" 552 553 554 191 2 270 181 271 (.ref 272) (.ref 273) 274 558 559)::(nat_lit 276,fO "_law_cell" 46 (.str "law_lostblock_k35_whole_plan_prints_states" 550) 275)::(nat_lit 282,cO "_law_mixed" 561 562 563 198 2 277 181 278 (.ref 279) (.ref 280) 281 567 568)::(nat_lit 283,fO "_law_mixed" 47 (.str "law_lostblock_k35_whole_plan_prints_states" 550) 282)::(nat_lit 289,cO "_law_size" 570 571 572 204 1 284 181 285 (.ref 286) (.ref 287) 288 575 576)::(nat_lit 290,fO "_law_size" 48 (.str "law_lostblock_k35_whole_plan_prints_states" 550) 289)::(nat_lit 296,cO "_law_set" 578 579 580 209 3 291 181 292 (.ref 293) (.ref 294) 295 588 589)::(nat_lit 297,fO "_law_set" 49 (.str "law_lostblock_k35_whole_plan_prints_states" 550) 296)::(nat_lit 303,cO "_law_states" 591 592 593 221 3 298 181 299 (.ref 300) (.ref 301) 302 602 603)::(nat_lit 304,fO "_law_states" 50 (.str "law_lostblock_k35_whole_plan_prints_states" 550) 303)::(nat_lit 308,cO "law" 605 606 607 233 1 305 181 306 .none .none 307 608 609)::(nat_lit 309,fO "law" 51 (.str "law_lostblock_k35_whole_plan_prints_states" 550) 308)::[]
structure Txt(mg:Str->Option Value):Prop where
 tt:True
 aaD:mg "all"=none
 ZM:mg "bool"=none
 N5:mg "dict"=none
 o7:mg "enumerate"=none
 aaE:mg "int"=none
 fM:mg "isinstance"=none
 nW:mg "len"=none
 zc:mg "list"=none
 jm:mg "range"=none
 sS:mg "sorted"=none
 Yi:mg "str"=none
 Qz:mg "tuple"=none
 aaF:mg "zip"=none
 Lr:∃ t,mg "COLUMN"=some (.str "column" t)
 VB:∃ t,mg "CUT"=some (.str "cut" t)
 QB:∃ t,mg "PRINT"=some (.str "print" t)
 Ls:∃ t,mg "ROW"=some (.str "row" t)
section
seal PE PA PS PSs PG PGs PI PPs MJ MT MA MAL MO MS MG MGs MI
variable{P:Program}{w:World}{K:Frag}{mg:Str->Option Value}{base:Heap}
theorem K9:bu ["thing"] ["thing"] (aG (top 5)):=by walk_at "s"
theorem La(T:Txt mg)(D:bh K mg "is_whole" (top 5) ["thing"]):FnAt P w K mg base "is_whole" 1 ["thing"] (spM K XR0 jY):=by
 refine D.ok K9 (λvs H Q E h=>cZ h λps r e=>match ps,e with|[_],_=>rfl) (λf cdv A outer s H vs Q E hr h=>?_)
 refine⟨_,(aJ (bj (uW (bN m8 rfl T.fM (by decide +kernel) (aj (pv 0) (aj (Bg rfl T.aaE (n:="int") (by decide +kernel)) au))) (uV (Yp (bN m8 rfl T.fM (by decide +kernel) (aj (pv 0) (aj (Bg rfl T.ZM (n:="bool") (by decide +kernel)) au)))))))),cY (b:=qw) (k:=1) (n:=0) rfl (λps r e=>match ps,e with|[_],e=>⟨rfl,e⟩) h λio H0 F0 hio=>?_⟩
 exact(bZ (u5 (vh aH.up M4 (bx 0) Bo) (YZ (vh aH.up M4 (bx 0) Bo))))
theorem Lb:bu ["size","cell"] ["size","cell"] (aG (top 6)):=by walk_at "s"
theorem Ld(T:Txt mg)(D:bh K mg "place_of" (top 6) ["size","cell"]):FnAt P w K mg base "place_of" 1 ["size","cell"] (spM K XR0 jZ):=by
 refine D.ok Lb (λvs H Q E h=>cZ h λps r e=>match ps,e with|[_,_],_=>rfl) (λf cdv A outer s H vs Q E hr h=>?_)
 refine⟨_,(aJ (bj (aZ cP (aZ d9 (bf aX (pv 1) aB (λ_ _=>rfl)) (bf aX (pv 0) aB (λ_ _=>rfl))) (bf aX (pv 1) aB (λ_ _=>rfl))))),cY (b:=vH) (k:=2) (n:=0) rfl (λps r e=>match ps,e with|[_,_],e=>⟨rfl,e⟩) h λio H0 F0 hio=>?_⟩
 exact(bZ (aA aF.up fY (aA aF.up kE (aA aF.up b7 (ak 1) aC) (aA aF.up b7 (ak 0) aC)) (aA aF.up b7 (ak 1) aC)))
theorem Le:bu ["size","some","cell"] ["size","some","cell"] (aG (top 7)):=by walk_at "s"
theorem Lf(T:Txt mg)(D:bh K mg "has_cell" (top 7) ["size","some","cell"])(vU:FnAt P w K mg base "place_of" 1 ["size","cell"] (spM K XR0 jZ)):FnAt P w K mg base "has_cell" 2 ["size","some","cell"] (spM K XR0 j4):=by
 refine D.ok Le (λvs H Q E h=>cZ h λps r e=>match ps,e with|[_,_,_],_=>rfl) (λf cdv A outer s H vs Q E hr h=>?_)
 refine⟨_,(aJ (bj (jB (iI hr) (aZ qY (aZ R7 (pv 1) (aQ vU (hr.mono (by decide)) rfl (aj (pv 0) (aj (pv 2) au)))) aB) aB (bQ _)))),cY (b:=vI) (k:=3) (n:=0) rfl (λps r e=>match ps,e with|[_,_,_],e=>⟨rfl,e⟩) h λio H0 F0 hio=>?_⟩
 exact(bZ (aA aH.up ug (bH (aA aF.up zy (aA aF.up XF (ak 1) (bG (ao (ak 0) (ao (ak 2) aO)))) aC)) (bH aC)))
theorem Ik:bu ["size"] ["size"] (aG (top 8)):=by walk_at "s"
theorem Il(T:Txt mg)(D:bh K mg "all_cells" (top 8) ["size"]):FnAt P w K mg base "all_cells" 1 ["size"] (spO K XR0 oF):=by
 refine D.ok Ik (λvs H Q E h=>ir h λps r e=>match ps,e with|[_],_=>rfl) (λf cdv A outer s H vs Q E hr h=>?_)
 refine⟨_,(aJ (bj (d7 ["place","size"] [none,some 0] rfl (gW rfl T.jm (aj (aZ d9 (bf aX (pv 0) aB (λ_ _=>rfl)) (bf aX (pv 0) aB (λ_ _=>rfl))) au)) (λ_ _ _ _ _=>(b8 (i:=0) (by decide +kernel) rfl rfl)) (λ_ _ _ _ _=>pg) (λ_ _ _ _ _=>(dG (aj (aZ fH (pvl 0) (bf iu (pvf 1) aB (λ_ _=>rfl))) (aj (aZ Ac (pvl 0) (bf iu (pvf 1) aB (λ_ _=>rfl))) au))))))),ik (b:=rO) (k:=1) (n:=0) rfl (λps r e=>match ps,e with|[_],e=>⟨rfl,e⟩) h λio H0 F0 hio=>?_⟩
 exact(qg (jg (mF (ao (aA aF.up kE (aA aF.up b7 (ak 0) aC) (aA aF.up b7 (ak 0) aC)) aO)) (aN 0) (cM 0) pq (fJ (ao (aA aF.up jE (ak 0) (aA aF.up b7 (ak 1) aC)) (ao (aA aF.up Oz (ak 0) (aA aF.up b7 (ak 1) aC)) aO)))))
theorem RK:bu ["size"] ["size"] (aG (top 9)):=by walk_at "s"
theorem RL(T:Txt mg)(D:bh K mg "all_of" (top 9) ["size"]):FnAt P w K mg base "all_of" 1 ["size"] (spM K XR0 pP):=by
 refine D.ok RK (λvs H Q E h=>cZ h λps r e=>match ps,e with|[_],_=>rfl) (λf cdv A outer s H vs Q E hr h=>?_)
 refine⟨_,(aJ (bj (aZ Bb (aZ Bc aB (aZ d9 (bf aX (pv 0) aB (λ_ _=>rfl)) (bf aX (pv 0) aB (λ_ _=>rfl)))) aB))),cY (b:=xF) (k:=1) (n:=0) rfl (λps r e=>match ps,e with|[_],e=>⟨rfl,e⟩) h λio H0 F0 hio=>?_⟩
 exact(bZ (aA aF.up JG (aA aF.up JH aC (aA aF.up kE (aA aF.up b7 (ak 0) aC) (aA aF.up b7 (ak 0) aC))) aC))
theorem ud:bu ["size","cells","some","cell"] ["size","cells"] (aG (top 10)):=by walk_at "s"
theorem RM(T:Txt mg)(D:bh K mg "set_of" (top 10) ["size","cells"])(vU:FnAt P w K mg base "place_of" 1 ["size","cell"] (spM K XR0 jZ)):FnAt P w K mg base "set_of" 2 ["size","cells"] (spM K XR0 pQ):=by
 refine D.ok ud (λvs H Q E h=>cZ h λps r e=>match ps,e with|[_,_],_=>rfl) (λf cdv A outer s H vs Q E hr h=>?_)
 refine⟨_,(aq (aR (i:=2) ud.nd rfl (Or.inl rfl) aB)
   (aq (fW ZaL rfl (ie (pv 1)) (cX (i:=3) ud.nd rfl (Or.inl rfl))
    (aJ (aR (i:=2) ud.nd rfl (Or.inl rfl) (aZ ZW (pv 2) (aZ Bc aB (aQ vU (hr.mono (by decide)) rfl (aj (pv 0) (aj (pv 3) au))))))))
   (aJ (bj (pv 2))))),cY (b:=Di) (k:=2) (n:=2) rfl (λps r e=>match ps,e with|[_,_],e=>⟨rfl,e⟩) h λio H0 F0 hio=>?_⟩
 exact(aM (bF aC (aN 2))
   (aM (iH (jf (ak 1)) (aN 3)
    (bF (aA aF.up aaO (ak 2) (aA aF.up JH aC (bG (ao (ak 0) (ao (ak 3) aO))))) (aN 2)))
   (bZ (ak 2))))
theorem Lg:bu ["size","some"] ["size","some"] (aG (top 11)):=by walk_at "s"
theorem Lh(T:Txt mg)(D:bh K mg "cells_of" (top 11) ["size","some"])(Lw:FnAt P w K mg base "all_cells" 1 ["size"] (spO K XR0 oF))(vV:FnAt P w K mg base "has_cell" 2 ["size","some","cell"] (spM K XR0 j4)):FnAt P w K mg base "cells_of" 3 ["size","some"] (spO K XR0 jq):=by
 refine D.ok Lg (λvs H Q E h=>ir h λps r e=>match ps,e with|[_,_],_=>rfl) (λf cdv A outer s H vs Q E hr h=>?_)
 refine⟨_,(aJ (bj (d7 ["cell","size","some"] [none,some 0,some 1] rfl (ie (aQ Lw (hr.mono (by decide)) rfl (aj (pv 0) au))) (λ_ _ _ _ _=>(b8 (i:=0) (by decide +kernel) rfl rfl)) (λ_ _ _ _ _=>(qd (lw (aQ vV (hr.mono (by decide)) (glc rfl) (aj (pvf 1) (aj (pvf 2) (aj (pvl 0) au))))))) (λ_ _ _ _ _=>(pvl 0))))),ik (b:=vJ) (k:=2) (n:=0) rfl (λps r e=>match ps,e with|[_,_],e=>⟨rfl,e⟩) h λio H0 F0 hio=>?_⟩
 exact(qg (jg (jf (bK (dm (ao (ak 0) aO)))) (aN 0) (cM 0) (lC (bG (ao (ak 1) (ao (ak 2) (ao (ak 0) aO))))) (ak 0)))
theorem RN:bu ["one","other"] ["one","other"] (aG (top 12)):=by walk_at "s"
theorem RP(T:Txt mg)(D:bh K mg "within" (top 12) ["one","other"]):FnAt P w K mg base "within" 1 ["one","other"] (spM K XR0 xH):=by
 refine D.ok RN (λvs H Q E h=>cZ h λps r e=>match ps,e with|[_,_],_=>rfl) (λf cdv A outer s H vs Q E hr h=>?_)
 refine⟨_,(aJ (bj (jB (iI hr) (aZ qY (pv 0) (pv 1)) (pv 0) (bQ _)))),cY (b:=xG) (k:=2) (n:=0) rfl (λps r e=>match ps,e with|[_,_],e=>⟨rfl,e⟩) h λio H0 F0 hio=>?_⟩
 exact(bZ (aA aH.up ug (bH (aA aF.up zy (ak 0) (ak 1))) (bx 0)))
theorem j6:bu ["wishes","asker_of","starts","askers","came_by","place","asker","giver"] ["wishes","asker_of","starts"] (aG (top 14)):=by walk_at "s"
theorem RQ(T:Txt mg)(D:bh K mg "walked" (top 14) ["wishes","asker_of","starts"]):FnAt P w K mg base "walked" 1 ["wishes","asker_of","starts"] (spD K XR0 nA):=by
 refine D.ok j6 (λvs H Q E h=>wV h λps r e=>match ps,e with|[_,_,_],_=>rfl) (λf cdv A outer s H vs Q E hr h=>?_)
 refine⟨_,(aq (aR (i:=3) j6.nd rfl (Or.inl rfl) (gY mq rfl T.zc (by decide +kernel) (aj (pv 2) au)))
   (aq (aR (i:=4) j6.nd rfl (Or.inl rfl) rm)
   (aq (aR (i:=5) j6.nd rfl (Or.inl rfl) aB)
   (aq (vZ ZaL (bB vg (pv 5) (bN dO rfl T.nW (by decide +kernel) (aj (pv 3) au)) (bQ _))
    (aq (aR (i:=6) j6.nd rfl (Or.inl rfl) (bf aX (pv 3) (pv 5) (λ_ _=>rfl)))
    (aq (fW ZaL rfl (ie (fP hr (pv 0) (pv 6) (λ_ _=>rfl))) (cX (i:=7) j6.nd rfl (Or.inl rfl))
     (aq (dY (bB (M5 hr) (pv 7) (pv 4) (by with_unfolding_all rfl))
      (aJ zg)
      cB)
     (aq (gZ (jC hr) (pv 4) (pv 7) (pv 6) rfl)
     (aq (dY (bB (yF hr) (pv 7) (pv 1) (by with_unfolding_all rfl))
      (aJ (bj (dG (aj (pv 7) (aj (pv 3) (aj (pv 4) au))))))
      cB)
     (aJ (gV (qZ ZaT ZaV PySem.F.type_list_append eZ (pv 3) (aj (fP hr (pv 1) (pv 7) (λ_ _=>rfl)) au))))))))
    (aJ (aR (i:=5) j6.nd rfl (Or.inl rfl) (aZ cP (pv 5) aB))))))
   (aJ (bj (dG (aj uT (aj (pv 3) (aj (pv 4) au)))))))))),wU (b:=Ds) (k:=3) (n:=5) rfl (λps r e=>match ps,e with|[_,_,_],e=>⟨rfl,e⟩) h λio H0 F0 hio=>?_⟩
 exact(aM (dq (i:=3) trivial (lF Hn (gB 2)))
   (aM (dq (i:=4) trivial wQ)
   (aM (bF aC (aN 5))
   (aM (Jx 2000 (bA (aA aF.up MK (ak 5) (iJ m9 (bx 3))))
    (aM (bF (aA aV.up OD (gB 3) (ak 5)) (aN 6))
    (aM (iH (jf (jh (bM 0) (ak 6))) (aN 7)
     (aM (dZ (bA (aA aF.up T8 (ak 7) (bM 4)))
      Ov
      cC)
     (aM (mG (ak 6) (ak 7))
     (aM (dZ (bA (aA aF.up wO (ak 7) (bM 1)))
      (xm (rM (wR (ak 7)) (mJ 3 hio (by decide) (mJ 4 hio (by decide) xg))))
      cC)
     (vd (jh (bM 1) (ak 7)))))))
    (bF (aA aF.up fY (ak 5) aC) (aN 5)))))
   (xm (rM (wR uZ) (mJ 3 hio (by decide) (mJ 4 hio (by decide) xg))))))))
theorem jR:bu ["giver_of","asker_of","came_by","free","giver","asker","left"] ["giver_of","asker_of","came_by","free"] (aG (top 15)):=by walk_at "s"
theorem Im(T:Txt mg)(D:bh K mg "pair_anew" (top 15) ["giver_of","asker_of","came_by","free"]):FnAt P w K mg base "pair_anew" 1 ["giver_of","asker_of","came_by","free"] (Cr K gH):=by
 refine D.ok jR (λvs H Q E h=>Gb h λps r e=>match ps,e with|[_,_,_,_],_=>rfl) (λf cdv A outer s H vs Q E hr h=>?_)
 refine⟨_,(aq (aR (i:=4) jR.nd rfl (Or.inl rfl) (pv 3))
   (aJ (vZ ZaL (bB GQ (pv 4) uT (bQ _))
    (aq (aR (i:=5) jR.nd rfl (Or.inl rfl) (fP hr (pv 2) (pv 4) (λ_ _=>rfl)))
    (aq (aR (i:=6) jR.nd rfl (Or.inl rfl) (FZ hr (pv 0) (pv 5) ⟨rfl,rfl,rfl,rfl⟩))
    (aq (gZ (jC hr) (pv 0) (pv 5) (pv 4) rfl)
    (aq (gZ (jC hr) (pv 1) (pv 4) (pv 5) rfl)
    (aJ (aR (i:=4) jR.nd rfl (Or.inl rfl) (pv 6)))))))))),Ga (b:=kY) (k:=4) (n:=3) rfl (λps r e=>match ps,e with|[_,_,_,_],e=>⟨rfl,e⟩) h λa c H0 F0=>?_⟩
 exact(j7 (oA (ak 3) (kW 4 (by decide)))
   (Gd 2000 (bA (aA aH.up M3 (bx 4) uZ))
    (j7 (oA (jh (bM 2) (ak 4)) (kW 5 (by decide)))
    (j7 (oA (JQ (bM 0) (ak 5)) (kW 6 (by decide)))
    (j7 (wW (ak 4) (ak 5))
    (j7 (wW (ak 5) (ak 4))
    (oA (ak 6) (kW 4 (by decide)))))))))
theorem je:bu ["wishes","giver_of","asker_of","asker","way"] ["wishes"] (aG (top 16)):=by walk_at "s"
theorem Ex(T:Txt mg)(D:bh K mg "most_pairs" (top 16) ["wishes"])(Eb:FnAt P w K mg base "walked" 1 ["wishes","asker_of","starts"] (spD K XR0 nA))(Lx:FnAt P w K mg base "pair_anew" 1 ["giver_of","asker_of","came_by","free"] (Cr K gH)):FnAt P w K mg base "most_pairs" 2 ["wishes"] (spO K XR0 jJ):=by
 refine D.ok je (λvs H Q E h=>ir h λps r e=>match ps,e with|[_],_=>rfl) (λf cdv A outer s H vs Q E hr h=>?_)
 refine⟨_,(aq (aR (i:=1) je.nd rfl (Or.inl rfl) rm)
   (aq (aR (i:=2) je.nd rfl (Or.inl rfl) rm)
   (aq (O7 0 (fW ZaL rfl (CW (pv 0)) (cX (i:=3) je.nd rfl (Or.inl rfl))
    (aq (aR (i:=4) je.nd rfl (Or.inl rfl) (aQ Eb (hr.mono (by decide)) rfl (aj (pv 0) (aj (pv 2) (aj (jV (aj (pv 3) au)) au)))))
    (aJ (gV (aQ Lx (hr.mono (by decide)) rfl (aj (pv 1) (aj (pv 2) (aj (bf aX (pv 4) aB (λ_ _=>rfl)) (aj (bf aX (pv 4) aB (λ_ _=>rfl)) au))))))))))
   (aJ (bj (pv 1)))))),ik (b:=qx) (k:=1) (n:=4) rfl (λps r e=>match ps,e with|[_],e=>⟨rfl,e⟩) h λio H0 F0 hio=>?_⟩
 exact(aM (dq (i:=1) trivial wQ)
   (aM (dq (i:=2) trivial wQ)
   (aM (Pb 0 (λ_ _=>Pg (yL 0) (aN 3)
    (aM (ql (i:=4) trivial (J2 (gC (bx 0) (gC (bx 2) (gC (bH (bK (lD (ao (ak 3) aO)))) Af)))))
    (xf 4 (Um (by decide) (ao (aA aF.up b7 (ak 4) aC) (ao (aA aF.up b7 (ak 4) aC) aO)))))))
   (mZ 1 hio))))
theorem ju:bu ["wishes","giver_of","asker_of","way"] ["wishes","giver_of"] (aG (top 17)):=by walk_at "s"
theorem vN(T:Txt mg)(D:bh K mg "short_of_givers" (top 17) ["wishes","giver_of"])(Eb:FnAt P w K mg base "walked" 1 ["wishes","asker_of","starts"] (spD K XR0 nA)):FnAt P w K mg base "short_of_givers" 2 ["wishes","giver_of"] (spM K XR0 gh):=by
 refine D.ok ju (λvs H Q E h=>cZ h λps r e=>match ps,e with|[_,_],_=>rfl) (λf cdv A outer s H vs Q E hr h=>?_)
 refine⟨_,(aq (aR (i:=2) ju.nd rfl (Or.inl rfl) (gY (M6 hr rfl) rfl T.N5 (by decide +kernel) (aj (tG 1 (d7 ["asker","giver"] [none,none] rfl (Gj (pv 1)) (λ_ _ _ _ _=>(wz (n:=2) rfl (dC (b8 (i:=0) (by decide +kernel) rfl rfl) (dC (b8 (i:=1) (by decide +kernel) rfl rfl) n6)))) (λ_ _ _ _ _=>pg) (λ_ _ _ _ _=>(dG (aj (pvl 1) (aj (pvl 0) au)))))) au)))
   (aq (aR (i:=3) ju.nd rfl (Or.inl rfl) (aQ Eb (hr.mono (by decide)) rfl (aj (pv 0) (aj (pv 2) (aj (tG 0 (d7 ["asker","giver_of"] [none,some 1] rfl (CW (pv 0)) (λ_ _ _ _ _=>(b8 (i:=0) (by decide +kernel) rfl rfl)) (λ_ _ _ _ _=>(qd (bB (Cm hr) (pvl 0) (pvf 1) (by with_unfolding_all rfl)))) (λ_ _ _ _ _=>(pvl 0)))) au)))))
   (aJ (bj (dG (aj (bN uB rfl T.sS (by decide +kernel) (aj (bf aX (pv 3) aB (λ_ _=>rfl)) au)) (aj (bN (Ep rfl) rfl T.sS (by decide +kernel) (aj (bf aX (pv 3) aB (λ_ _=>rfl)) au)) au))))))),cY (b:=jK) (k:=2) (n:=2) rfl (λps r e=>match ps,e with|[_,_],e=>⟨rfl,e⟩) h λio H0 F0 hio=>?_⟩
 exact(aM (bF (bK (lF (Hr λ_ _ _=>Wv) (mz (tK 1 (λ_ _=>jy (CZ 1) (rC (dF (aN 0) (dF (aN 1) oh))) (Bu (iU (cM 0) (iU (cM 1) wN))) pq (fJ (ao (ak 1) (ao (ak 0) aO)))))))) (aN 2))
   (aM (ql (i:=3) trivial (tE (ao (ak 0) (ao (ak 2) (ao (bK (tK 0 (λ_ _=>jy (yL 0) (aN 0) (cM 0) (bA (aA aF.up wO (ak 0) (bM 1))) (ak 0)))) aO)))))
   (xf 3 (bZ (fJ (ao (bK (lF Pz (Ae (aA aF.up b7 (ak 3) aC)))) (ao (bK (lF UV (JP (aA aF.up b7 (ak 3) aC)))) aO)))))))
theorem gO:bu ["wishes","asker_of","starts","askers","came_by","place","asker","giver"] ["wishes","asker_of","starts"] (aG (top 14)):=by walk_at "s"
theorem Li(T:Txt mg)(D:bh K mg "walked" (top 14) ["wishes","asker_of","starts"]):FnAt P w K mg base "walked" 1 ["wishes","asker_of","starts"] (spD K XR0 jr):=by
 refine D.ok gO (λvs H Q E h=>wV h λps r e=>match ps,e with|[_,_,_],_=>rfl) (λf cdv A outer s H vs Q E hr h=>?_)
 refine⟨_,(aq (aR (i:=3) gO.nd rfl (Or.inl rfl) (gY mq rfl T.zc (by decide +kernel) (aj (pv 2) au)))
   (aq (aR (i:=4) gO.nd rfl (Or.inl rfl) kh)
   (aq (aR (i:=5) gO.nd rfl (Or.inl rfl) aB)
   (aq (vZ ZaL (bB vg (pv 5) (bN dO rfl T.nW (by decide +kernel) (aj (pv 3) au)) (bQ _))
    (aq (aR (i:=6) gO.nd rfl (Or.inl rfl) (bf aX (pv 3) (pv 5) (λ_ _=>rfl)))
    (aq (fW ZaL rfl (ie (fP hr (pv 0) (pv 6) (λ_ _=>rfl))) (cX (i:=7) gO.nd rfl (Or.inl rfl))
     (aq (dY (bB (M5 hr) (pv 7) (pv 4) (by with_unfolding_all rfl))
      (aJ zg)
      cB)
     (aq (gZ (jC hr) (pv 4) (pv 7) (pv 6) rfl)
     (aq (dY (bB (yF hr) (pv 7) (pv 1) (by with_unfolding_all rfl))
      (aJ (bj (dG (aj (pv 7) (aj (pv 3) (aj (pv 4) au))))))
      cB)
     (aJ (gV (qZ ZaT ZaV PySem.F.type_list_append eZ (pv 3) (aj (fP hr (pv 1) (pv 7) (λ_ _=>rfl)) au))))))))
    (aJ (aR (i:=5) gO.nd rfl (Or.inl rfl) (aZ cP (pv 5) aB))))))
   (aJ (bj (dG (aj uT (aj (pv 3) (aj (pv 4) au)))))))))),wU (b:=vK) (k:=3) (n:=5) rfl (λps r e=>match ps,e with|[_,_,_],e=>⟨rfl,e⟩) h λio H0 F0 hio=>?_⟩
 exact(aM (dq (i:=3) trivial (lF Hn (gB 2)))
   (aM (dq (i:=4) trivial ou)
   (aM (bF aC (aN 5))
   (aM (Jx 200 (bA (aA aF.up MK (ak 5) (iJ m9 (bx 3))))
    (aM (bF (aA aV.up OD (gB 3) (ak 5)) (aN 6))
    (aM (iH (jf (jh (bM 0) (ak 6))) (aN 7)
     (aM (dZ (bA (aA aF.up T8 (ak 7) (bM 4)))
      Ov
      cC)
     (aM (mG (ak 6) (ak 7))
     (aM (dZ (bA (aA aF.up wO (ak 7) (bM 1)))
      (xm (rM (wR (ak 7)) (mJ 3 hio (by decide) (mJ 4 hio (by decide) xg))))
      cC)
     (vd (jh (bM 1) (ak 7)))))))
    (bF (aA aF.up fY (ak 5) aC) (aN 5)))))
   (xm (rM (wR uZ) (mJ 3 hio (by decide) (mJ 4 hio (by decide) xg))))))))
theorem gP:bu ["giver_of","asker_of","came_by","free","giver","asker","left"] ["giver_of","asker_of","came_by","free"] (aG (top 15)):=by walk_at "s"
theorem Ea(T:Txt mg)(D:bh K mg "pair_anew" (top 15) ["giver_of","asker_of","came_by","free"]):FnAt P w K mg base "pair_anew" 1 ["giver_of","asker_of","came_by","free"] (Cr K eO):=by
 refine D.ok gP (λvs H Q E h=>Gb h λps r e=>match ps,e with|[_,_,_,_],_=>rfl) (λf cdv A outer s H vs Q E hr h=>?_)
 refine⟨_,(aq (aR (i:=4) gP.nd rfl (Or.inl rfl) (pv 3))
   (aJ (vZ ZaL (bB GQ (pv 4) uT (bQ _))
    (aq (aR (i:=5) gP.nd rfl (Or.inl rfl) (fP hr (pv 2) (pv 4) (λ_ _=>rfl)))
    (aq (aR (i:=6) gP.nd rfl (Or.inl rfl) (FZ hr (pv 0) (pv 5) ⟨rfl,rfl,rfl,rfl⟩))
    (aq (gZ (jC hr) (pv 0) (pv 5) (pv 4) rfl)
    (aq (gZ (jC hr) (pv 1) (pv 4) (pv 5) rfl)
    (aJ (aR (i:=4) gP.nd rfl (Or.inl rfl) (pv 6)))))))))),Ga (b:=iZ) (k:=4) (n:=3) rfl (λps r e=>match ps,e with|[_,_,_,_],e=>⟨rfl,e⟩) h λa c H0 F0=>?_⟩
 exact(j7 (oA (ak 3) (kW 4 (by decide)))
   (Gd 200 (bA (aA aH.up M3 (bx 4) uZ))
    (j7 (oA (jh (bM 2) (ak 4)) (kW 5 (by decide)))
    (j7 (oA (JQ (bM 0) (ak 5)) (kW 6 (by decide)))
    (j7 (wW (ak 4) (ak 5))
    (j7 (wW (ak 5) (ak 4))
    (oA (ak 6) (kW 4 (by decide)))))))))
theorem fU:bu ["wishes","giver_of","asker_of","asker","way"] ["wishes"] (aG (top 16)):=by walk_at "s"
theorem z6(T:Txt mg)(D:bh K mg "most_pairs" (top 16) ["wishes"])(vW:FnAt P w K mg base "walked" 1 ["wishes","asker_of","starts"] (spD K XR0 jr))(EY:FnAt P w K mg base "pair_anew" 1 ["giver_of","asker_of","came_by","free"] (Cr K eO)):FnAt P w K mg base "most_pairs" 2 ["wishes"] (spO K XR0 gJ):=by
 refine D.ok fU (λvs H Q E h=>ir h λps r e=>match ps,e with|[_],_=>rfl) (λf cdv A outer s H vs Q E hr h=>?_)
 refine⟨_,(aq (aR (i:=1) fU.nd rfl (Or.inl rfl) kh)
   (aq (aR (i:=2) fU.nd rfl (Or.inl rfl) kh)
   (aq (O7 0 (fW ZaL rfl (O8 (pv 0)) (cX (i:=3) fU.nd rfl (Or.inl rfl))
    (aq (aR (i:=4) fU.nd rfl (Or.inl rfl) (aQ vW (hr.mono (by decide)) rfl (aj (pv 0) (aj (pv 2) (aj (jV (aj (pv 3) au)) au)))))
    (aJ (gV (aQ EY (hr.mono (by decide)) rfl (aj (pv 1) (aj (pv 2) (aj (bf aX (pv 4) aB (λ_ _=>rfl)) (aj (bf aX (pv 4) aB (λ_ _=>rfl)) au))))))))))
   (aJ (bj (pv 1)))))),ik (b:=nC) (k:=1) (n:=4) rfl (λps r e=>match ps,e with|[_],e=>⟨rfl,e⟩) h λio H0 F0 hio=>?_⟩
 exact(aM (dq (i:=1) trivial ou)
   (aM (dq (i:=2) trivial ou)
   (aM (Pb 0 (λ_ _=>Pg (JZ 0) (aN 3)
    (aM (ql (i:=4) trivial (J2 (gC (bx 0) (gC (bx 2) (gC (bH (bK (lD (ao (ak 3) aO)))) Af)))))
    (xf 4 (Um (by decide) (ao (aA aF.up b7 (ak 4) aC) (ao (aA aF.up b7 (ak 4) aC) aO)))))))
   (mZ 1 hio))))
theorem gQ:bu ["wishes","giver_of","asker_of","way"] ["wishes","giver_of"] (aG (top 17)):=by walk_at "s"
theorem sO(T:Txt mg)(D:bh K mg "short_of_givers" (top 17) ["wishes","giver_of"])(vW:FnAt P w K mg base "walked" 1 ["wishes","asker_of","starts"] (spD K XR0 jr)):FnAt P w K mg base "short_of_givers" 2 ["wishes","giver_of"] (spM K XR0 eY):=by
 refine D.ok gQ (λvs H Q E h=>cZ h λps r e=>match ps,e with|[_,_],_=>rfl) (λf cdv A outer s H vs Q E hr h=>?_)
 refine⟨_,(aq (aR (i:=2) gQ.nd rfl (Or.inl rfl) (gY (Ck hr rfl) rfl T.N5 (by decide +kernel) (aj (tG 1 (d7 ["asker","giver"] [none,none] rfl (Uq (pv 1)) (λ_ _ _ _ _=>(wz (n:=2) rfl (dC (b8 (i:=0) (by decide +kernel) rfl rfl) (dC (b8 (i:=1) (by decide +kernel) rfl rfl) n6)))) (λ_ _ _ _ _=>pg) (λ_ _ _ _ _=>(dG (aj (pvl 1) (aj (pvl 0) au)))))) au)))
   (aq (aR (i:=3) gQ.nd rfl (Or.inl rfl) (aQ vW (hr.mono (by decide)) rfl (aj (pv 0) (aj (pv 2) (aj (tG 0 (d7 ["asker","giver_of"] [none,some 1] rfl (O8 (pv 0)) (λ_ _ _ _ _=>(b8 (i:=0) (by decide +kernel) rfl rfl)) (λ_ _ _ _ _=>(qd (bB (Cm hr) (pvl 0) (pvf 1) (by with_unfolding_all rfl)))) (λ_ _ _ _ _=>(pvl 0)))) au)))))
   (aJ (bj (dG (aj (bN J1 rfl T.sS (by decide +kernel) (aj (bf aX (pv 3) aB (λ_ _=>rfl)) au)) (aj (bN (Hv rfl) rfl T.sS (by decide +kernel) (aj (bf aX (pv 3) aB (λ_ _=>rfl)) au)) au))))))),cY (b:=iR) (k:=2) (n:=2) rfl (λps r e=>match ps,e with|[_,_],e=>⟨rfl,e⟩) h λio H0 F0 hio=>?_⟩
 exact(aM (bF (bK (lF (Hr λ_ _ _=>O5) (mz (tK 1 (λ_ _=>jy (Rk 1) (rC (dF (aN 0) (dF (aN 1) oh))) (Bu (iU (cM 0) (iU (cM 1) wN))) pq (fJ (ao (ak 1) (ao (ak 0) aO)))))))) (aN 2))
   (aM (ql (i:=3) trivial (tE (ao (ak 0) (ao (ak 2) (ao (bK (tK 0 (λ_ _=>jy (JZ 0) (aN 0) (cM 0) (bA (aA aF.up wO (ak 0) (bM 1))) (ak 0)))) aO)))))
   (xf 3 (bZ (fJ (ao (bK (lF Zg (Ae (aA aF.up b7 (ak 3) aC)))) (ao (bK (lF WD (JP (aA aF.up b7 (ak 3) aC)))) aO)))))))
theorem z7:bu ["states","number"] ["states","number"] (aG (top 19)):=by walk_at "s"
theorem z8(T:Txt mg)(D:bh K mg "states_ahead" (top 19) ["states","number"])(VD:FnAt P w K mg base "within" 1 ["one","other"] (spM K XR0 xH)):FnAt P w K mg base "states_ahead" 2 ["states","number"] (spO K XR0 jM):=by
 refine D.ok z7 (λvs H Q E h=>ir h λps r e=>match ps,e with|[_,_],_=>rfl) (λf cdv A outer s H vs Q E hr h=>?_)
 refine⟨_,(aJ (bj (d7 ["earlier","states","number"] [none,some 0,some 1] rfl (gW rfl T.jm (aj (pv 1) au)) (λ_ _ _ _ _=>(b8 (i:=0) (by decide +kernel) rfl rfl)) (λ_ _ _ _ _=>(qd (lw (aQ VD (hr.mono (by decide)) (glc rfl) (aj (bf iu (pvf 1) (pvf 2) (λ_ _=>rfl)) (aj (bf iu (pvf 1) (pvl 0) (λ_ _=>rfl)) au)))))) (λ_ _ _ _ _=>(pvl 0))))),ik (b:=jL) (k:=2) (n:=0) rfl (λps r e=>match ps,e with|[_,_],e=>⟨rfl,e⟩) h λio H0 F0 hio=>?_⟩
 exact(qg (jg (mF (ao (ak 1) aO)) (aN 0) (cM 0) (lC (bG (ao (aA aF.up b7 (ak 1) (ak 2)) (ao (aA aF.up b7 (ak 1) (ak 0)) aO)))) (ak 0)))
theorem mR:bu ["many","ahead_of","chains","chain_of","number"] ["many","ahead_of"] (aG (top 20)):=by walk_at "s"
theorem Io(T:Txt mg)(D:bh K mg "chains_by" (top 20) ["many","ahead_of"]):FnAt P w K mg base "chains_by" 1 ["many","ahead_of"] (spD K XR0 jz):=by
 refine D.ok mR (λvs H Q E h=>wV h λps r e=>match ps,e with|[_,_],_=>rfl) (λf cdv A outer s H vs Q E hr h=>?_)
 refine⟨_,(aq (aR (i:=2) mR.nd rfl (Or.inl rfl) (jV au))
   (aq (aR (i:=3) mR.nd rfl (Or.inl rfl) kh)
   (aq (fW ZaL rfl (gW rfl T.jm (aj (pv 0) au)) (cX (i:=4) mR.nd rfl (Or.inl rfl))
    (aJ (dY (bB (M5 hr) (pv 4) (pv 1) (by with_unfolding_all rfl))
     (aq (gZ (jC hr) (pv 3) (pv 4) (fP hr (pv 3) (fP hr (pv 1) (pv 4) (λ_ _=>rfl)) (λ_ _=>rfl)) rfl)
     (aJ (gV (qZ ZaT ZaV PySem.F.type_list_append eZ (bf aX (pv 2) (fP hr (pv 3) (pv 4) (λ_ _=>rfl)) (λ_ _=>rfl)) (aj (pv 4) au)))))
     (aq (gZ (jC hr) (pv 3) (pv 4) (bN dO rfl T.nW (by decide +kernel) (aj (pv 2) au)) rfl)
     (aJ (gV (qZ ZaT ZaV PySem.F.type_list_append eZ (pv 2) (aj (jV (aj (pv 4) au)) au))))))))
   (aJ (bj (pv 2)))))),wU (b:=oG) (k:=2) (n:=3) rfl (λps r e=>match ps,e with|[_,_],e=>⟨rfl,e⟩) h λio H0 F0 hio=>?_⟩
 exact(aM (ql (i:=2) trivial (XM (lD aO)))
   (aM (dq (i:=3) trivial ou)
   (aM (iH (mF (ao (ak 0) aO)) (aN 4)
    (dZ (bA (aA aF.up T8 (ak 4) (bM 1)))
     (aM (mG (jh (bM 3) (jh (bM 1) (ak 4))) (ak 4))
     (Wy (jh (bM 3) (ak 4)) (ak 4)))
     (aM (mG (aap (i:=2) (iJ m9 (bx 2))) (ak 4))
     (Wz (XM (lD (ao (ak 4) aO)))))))
   (JV 2))))
theorem fC:bu ["states","wishes","ahead_of","short","apart"] ["states"] (aG (top 21)):=by walk_at "s"
theorem yZ(T:Txt mg)(D:bh K mg "fewest_blocks" (top 21) ["states"])(Ec:FnAt P w K mg base "states_ahead" 2 ["states","number"] (spO K XR0 jM))(Ed:FnAt P w K mg base "most_pairs" 2 ["wishes"] (spO K XR0 gJ))(uq:FnAt P w K mg base "short_of_givers" 2 ["wishes","giver_of"] (spM K XR0 eY))(Ly:FnAt P w K mg base "chains_by" 1 ["many","ahead_of"] (spD K XR0 jz)):FnAt P w K mg base "fewest_blocks" 3 ["states"] (spD K XR0 cV):=by
 refine D.ok fC (λvs H Q E h=>wV h λps r e=>match ps,e with|[_],_=>rfl) (λf cdv A outer s H vs Q E hr h=>?_)
 refine⟨_,(aq (aR (i:=1) fC.nd rfl (Or.inl rfl) (gY (Ck hr rfl) rfl T.N5 (by decide +kernel) (aj (d7 ["number","states"] [none,some 0] rfl (gW rfl T.jm (aj (bN dO rfl T.nW (by decide +kernel) (aj (pv 0) au)) au)) (λ_ _ _ _ _=>(b8 (i:=0) (by decide +kernel) rfl rfl)) (λ_ _ _ _ _=>pg) (λ_ _ _ _ _=>(dG (aj (pvl 0) (aj (aQ Ec (hr.mono (by decide)) (glc rfl) (aj (pvf 1) (aj (pvl 0) au))) au))))) au)))
   (aq (aR (i:=2) fC.nd rfl (Or.inl rfl) (aQ Ed (hr.mono (by decide)) rfl (aj (pv 1) au)))
   (aq (aR (i:=3) fC.nd rfl (Or.inr rfl) (aQ uq (hr.mono (by decide)) rfl (aj (pv 1) (aj (pv 2) au))))
   (aq (Ot (i:=4) ["number","short"] [none,some 3] rfl fC.nd rfl rfl (ie (bf aX (pv 3) aB (λ_ _=>rfl))) (λ_ _ _ _ _=>(b8 (i:=0) (by decide +kernel) rfl rfl)) (λ_ _ _ _ _=>(qd (bB (By hr) (pvl 0) (bf iu (pvf 1) aB (λ_ _=>rfl)) (by with_unfolding_all rfl)))) (λ_ _ _ _ _=>(pvl 0)))
   (aJ (bj (dG (aj (aQ Ly (hr.mono (by decide)) rfl (aj (bN dO rfl T.nW (by decide +kernel) (aj (pv 0) au)) (aj (pv 2) au))) (aj (pv 4) au))))))))),wU (b:=ji) (k:=1) (n:=4) rfl (λps r e=>match ps,e with|[_],e=>⟨rfl,e⟩) h λio H0 F0 hio=>?_⟩
 exact(aM (bF (bK (lF (Hr λ_ _ _=>O5) (mz (jg (mF (ao (iJ m9 (bx 0)) aO)) (aN 0) (cM 0) pq (fJ (ao (ak 0) (ao (bK (dm (ao (ak 1) (ao (ak 0) aO)))) aO))))))) (aN 1))
   (aM (bF (bK (dm (ao (ak 1) aO))) (aN 2))
   (aM (bF (bG (ao (ak 1) (ao (ak 2) aO))) (aN 3))
   (aM (dq (i:=4) trivial (jg (jf (aA aF.up b7 (ak 3) aC)) (aN 0) (cM 0) (bA (aA aH.up Ag (bx 0) (bH (aA aF.up b7 (ak 1) aC)))) (ak 0)))
   (xm (rM (tE (ao (iJ m9 (bx 0)) (ao (ak 2) aO))) (mJ 4 hio (by decide) xg)))))))
theorem Ip:bu ["thing"] ["thing"] (aG (top 25)):=by walk_at "s"
theorem Ir(T:Txt mg)(D:bh K mg "is_stroke" (top 25) ["thing"])(vX:FnAt P w K mg base "is_whole" 1 ["thing"] (spM K XR0 jY)):FnAt P w K mg base "is_stroke" 2 ["thing"] (spM K XR0 oJ):=by
 refine D.ok Ip (λvs H Q E h=>cZ h λps r e=>match ps,e with|[_],_=>rfl) (λf cdv A outer s H vs Q E hr h=>?_)
 refine⟨_,(aq (dY (PW.pt (Ff (qU (lw (bN m8 rfl T.fM (by decide +kernel) (aj (pv 0) (aj (Bg rfl T.Qz (n:="tuple") (by decide +kernel)) au))))) (Aw (bB (vf hr) (bN dO rfl T.nW (by decide +kernel) (aj (pv 0) au)) aB (bQ _)))))
    (aJ (bj ur))
    cB)
   (aq (dY (PW.pt (Ff (qU (lw (bN m8 rfl T.fM (by decide +kernel) (aj (bf aX (pv 0) aB (λ_ _=>rfl)) (aj (Bg rfl T.Yi (n:="str") (by decide +kernel)) au))))) (Aw (bB (yz hr) (bf aX (pv 0) aB (λ_ _=>rfl)) (dG (aj (qL rfl T.Ls) (aj (qL rfl T.Lr) au))) (by with_unfolding_all rfl)))))
    (aJ (bj ur))
    cB)
   (aJ (bj (uW (bN (SM rfl) rfl T.aaD (by decide +kernel) (aj (d7 ["number"] [none] rfl (ie (Jo YD (pv 0) (Ol aB) Oj)) (λ_ _ _ _ _=>(b8 (i:=0) (by decide +kernel) rfl rfl)) (λ_ _ _ _ _=>pg) (λ_ _ _ _ _=>(aQ vX (hr.mono (by decide)) (glc rfl) (aj (pvl 0) au)))) au)) (uV (jB MF (bf aX (pv 0) aB (λ_ _=>rfl)) (bf aX (pv 0) aB (λ_ _=>rfl)) (bQ _)))))))),cY (b:=oH) (k:=1) (n:=0) rfl (λps r e=>match ps,e with|[_],e=>⟨rfl,e⟩) h λio H0 F0 hio=>?_⟩
 exact(aM (dZ (Fz (rB (lC (vh aH.up M4 (bx 0) Bo))) (bA (aA aH.up MN (bH (iJ m9 (bx 0))) (bH aC))))
    (bZ ut)
    cC)
   (aM (dZ (Fz (rB (lC (vh aH.up M4 (bH (aA aF.up b7 (ak 0) aC)) Bo))) (bA (aA aH.up Ag (bH (aA aF.up b7 (ak 0) aC)) (bH (fJ (ao jW (ao jW aO)))))))
    (bZ ut)
    cC)
   (bZ (u5 (iJ aan (mz (jg (jf (Y9 (ak 0) (O1 aC) OJ)) (aN 0) (cM 0) pq (bG (ao (ak 0) aO))))) (aA aF.up Y7 (aA aF.up b7 (ak 0) aC) (aA aF.up b7 (ak 0) aC))))))
theorem Lj:bu ["size","kind"] ["size","kind"] (aG (top 26)):=by walk_at "s"
theorem Lk(T:Txt mg)(D:bh K mg "lines_of" (top 26) ["size","kind"]):FnAt P w K mg base "lines_of" 1 ["size","kind"] (spM K XR0 j5):=by
 refine D.ok Lj (λvs H Q E h=>cZ h λps r e=>match ps,e with|[_,_],_=>rfl) (λf cdv A outer s H vs Q E hr h=>?_)
 refine⟨_,(aJ (bj (Jj (bB (iI hr) (pv 1) (qL rfl T.Ls) (bQ _)) (bf aX (pv 0) aB (λ_ _=>rfl)) (bf aX (pv 0) aB (λ_ _=>rfl))))),cY (b:=qy) (k:=2) (n:=0) rfl (λps r e=>match ps,e with|[_,_],e=>⟨rfl,e⟩) h λio H0 F0 hio=>?_⟩
 exact(bZ (Xz (bA (aA aH.up ug (bx 1) (bH jW))) (aA aF.up b7 (ak 0) aC) (aA aF.up b7 (ak 0) aC)))
theorem Iu:bu ["size","kind"] ["size","kind"] (aG (top 27)):=by walk_at "s"
theorem Iv(T:Txt mg)(D:bh K mg "length_of" (top 27) ["size","kind"]):FnAt P w K mg base "length_of" 1 ["size","kind"] (spM K XR0 jA):=by
 refine D.ok Iu (λvs H Q E h=>cZ h λps r e=>match ps,e with|[_,_],_=>rfl) (λf cdv A outer s H vs Q E hr h=>?_)
 refine⟨_,(aJ (bj (Jj (bB (iI hr) (pv 1) (qL rfl T.Ls) (bQ _)) (bf aX (pv 0) aB (λ_ _=>rfl)) (bf aX (pv 0) aB (λ_ _=>rfl))))),cY (b:=oK) (k:=2) (n:=0) rfl (λps r e=>match ps,e with|[_,_],e=>⟨rfl,e⟩) h λio H0 F0 hio=>?_⟩
 exact(bZ (Xz (bA (aA aH.up ug (bx 1) (bH jW))) (aA aF.up b7 (ak 0) aC) (aA aF.up b7 (ak 0) aC)))
theorem NB:bu ["size","thing"] ["size","thing"] (aG (top 28)):=by walk_at "s"
theorem NK(T:Txt mg)(D:bh K mg "lies_on" (top 28) ["size","thing"])(Lz:FnAt P w K mg base "is_stroke" 2 ["thing"] (spM K XR0 oJ))(vY:FnAt P w K mg base "lines_of" 1 ["size","kind"] (spM K XR0 j5))(sU:FnAt P w K mg base "length_of" 1 ["size","kind"] (spM K XR0 jA)):FnAt P w K mg base "lies_on" 3 ["size","thing"] (spM K XR0 tV):=by
 refine D.ok NB (λvs H Q E h=>cZ h λps r e=>match ps,e with|[_,_],_=>rfl) (λf cdv A outer s H vs Q E hr h=>?_)
 refine⟨_,(aq (dY (qU (lw (aQ Lz (hr.mono (by decide)) rfl (aj (pv 1) au))))
    (aJ (bj ur))
    cB)
   (aJ (bj (uW (Sq MF vg aB (bf aX (pv 1) aB (λ_ _=>rfl)) (aQ vY (hr.mono (by decide)) rfl (aj (pv 0) (aj (bf aX (pv 1) aB (λ_ _=>rfl)) au)))) (uW (jB MF aB (bf aX (pv 1) aB (λ_ _=>rfl)) (bQ _)) (uV (jB vg (bf aX (pv 1) aB (λ_ _=>rfl)) (aQ sU (hr.mono (by decide)) rfl (aj (pv 0) (aj (bf aX (pv 1) aB (λ_ _=>rfl)) au))) (bQ _)))))))),cY (b:=tU) (k:=2) (n:=0) rfl (λps r e=>match ps,e with|[_,_],e=>⟨rfl,e⟩) h λio H0 F0 hio=>?_⟩
 exact(aM (dZ (rB (lC (bG (ao (ak 1) aO))))
    (bZ ut)
    cC)
   (bZ (u5 (Tj Y7 MK aC (aA aF.up b7 (ak 1) aC) (bG (ao (ak 0) (ao (aA aF.up b7 (ak 1) aC) aO)))) (u5 (aA aF.up Y7 aC (aA aF.up b7 (ak 1) aC)) (aA aF.up MK (aA aF.up b7 (ak 1) aC) (bG (ao (ak 0) (ao (aA aF.up b7 (ak 1) aC) aO))))))))
theorem z9:bu ["stroke"] ["stroke"] (aG (top 29)):=by walk_at "s"
theorem Aa(T:Txt mg)(D:bh K mg "stroke_cells" (top 29) ["stroke"]):FnAt P w K mg base "stroke_cells" 1 ["stroke"] (spO K XR0 di):=by
 refine D.ok z9 (λvs H Q E h=>ir h λps r e=>match ps,e with|[_],_=>rfl) (λf cdv A outer s H vs Q E hr h=>?_)
 refine⟨_,(aq (dY (bB (iI hr) (bf aX (pv 0) aB (λ_ _=>rfl)) (qL rfl T.Ls) (bQ _))
    (aJ (bj (d7 ["column","stroke"] [none,some 0] rfl (Fj rfl T.jm (aj (bf aX (pv 0) aB (λ_ _=>rfl)) (aj (aZ cP (bf aX (pv 0) aB (λ_ _=>rfl)) aB) au))) (λ_ _ _ _ _=>(b8 (i:=0) (by decide +kernel) rfl rfl)) (λ_ _ _ _ _=>pg) (λ_ _ _ _ _=>(dG (aj (pvl 0) (aj (bf iu (pvf 1) aB (λ_ _=>rfl)) au)))))))
    cB)
   (aJ (bj (d7 ["row","stroke"] [none,some 0] rfl (Fj rfl T.jm (aj (bf aX (pv 0) aB (λ_ _=>rfl)) (aj (aZ cP (bf aX (pv 0) aB (λ_ _=>rfl)) aB) au))) (λ_ _ _ _ _=>(b8 (i:=0) (by decide +kernel) rfl rfl)) (λ_ _ _ _ _=>pg) (λ_ _ _ _ _=>(dG (aj (bf iu (pvf 1) aB (λ_ _=>rfl)) (aj (pvl 0) au)))))))),ik (b:=jN) (k:=1) (n:=0) rfl (λps r e=>match ps,e with|[_],e=>⟨rfl,e⟩) h λio H0 F0 hio=>?_⟩
 exact(aM (dZ (bA (aA aH.up ug (bH (aA aF.up b7 (ak 0) aC)) (bH jW)))
    (qg (jg (O3 (ao (aA aF.up b7 (ak 0) aC) (ao (aA aF.up fY (aA aF.up b7 (ak 0) aC) aC) aO))) (aN 0) (cM 0) pq (fJ (ao (ak 0) (ao (aA aF.up b7 (ak 1) aC) aO)))))
    cC)
   (qg (jg (O3 (ao (aA aF.up b7 (ak 0) aC) (ao (aA aF.up fY (aA aF.up b7 (ak 0) aC) aC) aO))) (aN 0) (cM 0) pq (fJ (ao (aA aF.up b7 (ak 1) aC) (ao (ak 0) aO))))))
theorem Iw:bu ["size","stroke"] ["size","stroke"] (aG (top 30)):=by walk_at "s"
theorem Iz(T:Txt mg)(D:bh K mg "cells_cut" (top 30) ["size","stroke"])(Ef:FnAt P w K mg base "set_of" 2 ["size","cells"] (spM K XR0 pQ))(gU:FnAt P w K mg base "stroke_cells" 1 ["stroke"] (spO K XR0 di)):FnAt P w K mg base "cells_cut" 3 ["size","stroke"] (spM K XR0 oN):=by
 refine D.ok Iw (λvs H Q E h=>cZ h λps r e=>match ps,e with|[_,_],_=>rfl) (λf cdv A outer s H vs Q E hr h=>?_)
 refine⟨_,(aJ (bj (aQ Ef (hr.mono (by decide)) rfl (aj (pv 0) (aj (aQ gU (hr.mono (by decide)) rfl (aj (pv 1) au)) au))))),cY (b:=oM) (k:=2) (n:=0) rfl (λps r e=>match ps,e with|[_,_],e=>⟨rfl,e⟩) h λio H0 F0 hio=>?_⟩
 exact(bZ (bG (ao (ak 0) (ao (bK (dm (ao (ak 1) aO))) aO))))
theorem fL:bu ["size","keep","kind","line","last","cells","kept"] ["size","keep","kind","line"] (aG (top 31)):=by walk_at "s"
theorem vO(T:Txt mg)(D:bh K mg "longest_strokes" (top 31) ["size","keep","kind","line"])(sU:FnAt P w K mg base "length_of" 1 ["size","kind"] (spM K XR0 jA))(gU:FnAt P w K mg base "stroke_cells" 1 ["stroke"] (spO K XR0 di))(vV:FnAt P w K mg base "has_cell" 2 ["size","some","cell"] (spM K XR0 j4)):FnAt P w K mg base "longest_strokes" 3 ["size","keep","kind","line"] (spO K XR0 gk):=by
 refine D.ok fL (λvs H Q E h=>ir h λps r e=>match ps,e with|[_,_,_,_],_=>rfl) (λf cdv A outer s H vs Q E hr h=>?_)
 refine⟨_,(aq (aR (i:=4) fL.nd rfl (Or.inl rfl) (aZ Bb (aQ sU (hr.mono (by decide)) rfl (aj (pv 0) (aj (pv 2) au))) aB))
   (aq (aR (i:=5) fL.nd rfl (Or.inl rfl) (aQ gU (hr.mono (by decide)) rfl (aj (dG (aj (pv 2) (aj (pv 3) (aj aB (aj (pv 4) au))))) au)))
   (aq (aR (i:=6) fL.nd rfl (Or.inl rfl) (aZ Hk (aZ Hk (jV (aj (Og R8 aB) au)) (d7 ["place","cell","size","keep"] [none,none,some 0,some 1] rfl (Ad rfl T.o7 (aj (pv 5) au)) (λ_ _ _ _ _=>(wz (n:=2) rfl (dC (b8 (i:=0) (by decide +kernel) rfl rfl) (dC (b8 (i:=1) (by decide +kernel) rfl rfl) n6)))) (λ_ _ _ _ _=>(qd (lw (aQ vV (hr.mono (by decide)) (glc rfl) (aj (pvf 2) (aj (pvf 3) (aj (pvl 1) au))))))) (λ_ _ _ _ _=>(pvl 0)))) (jV (aj (aZ cP (pv 4) aB) au))))
   (aJ (bj (d7 ["one","other","kind","line"] [none,none,some 2,some 3] rfl (Zc rfl T.aaF (aj (pv 6) (aj (Jo Wb (pv 6) (Ol aB) Oj) au))) (λ_ _ _ _ _=>(wz (n:=2) rfl (dC (b8 (i:=0) (by decide +kernel) rfl rfl) (dC (b8 (i:=1) (by decide +kernel) rfl rfl) n6)))) (λ_ _ _ _ _=>(qd (bB vg (aZ JL (pvl 0) aB) (pvl 1) (bQ _)))) (λ_ _ _ _ _=>(dG (aj (pvf 2) (aj (pvf 3) (aj (aZ JL (pvl 0) aB) (aj (aZ Bb (pvl 1) aB) au)))))))))))),ik (b:=gj) (k:=4) (n:=3) rfl (λps r e=>match ps,e with|[_,_,_,_],e=>⟨rfl,e⟩) h λio H0 F0 hio=>?_⟩
 exact(aM (bF (aA aF.up JG (bG (ao (ak 0) (ao (ak 2) aO))) aC) (aN 4))
   (aM (bF (bK (dm (ao (fJ (ao (ak 2) (ao (ak 3) (ao aC (ao (ak 4) aO))))) aO))) (aN 5))
   (aM (bF (bK (Ti aV.up TV (mz (Ti aV.up TV (mz (lD (ao (T6 aC) aO))) (mz (jg (Ah (ao (ak 5) aO)) (rC (dF (aN 0) (dF (aN 1) oh))) (Bu (iU (cM 0) (iU (cM 1) wN))) (lC (bG (ao (ak 2) (ao (ak 3) (ao (ak 1) aO))))) (ak 0))))) (mz (lD (ao (aA aF.up fY (ak 4) aC) aO))))) (aN 6))
   (qg (jg (Zd (ao (ak 6) (ao (bK (Y8 (gB 6) (O1 aC) OJ)) aO))) (rC (dF (aN 0) (dF (aN 1) oh))) (Bu (iU (cM 0) (iU (cM 1) wN))) (bA (aA aF.up MK (aA aF.up fY (ak 0) aC) (ak 1))) (fJ (ao (ak 2) (ao (ak 3) (ao (aA aF.up fY (ak 0) aC) (ao (aA aF.up JG (ak 1) aC) aO))))))))))
theorem dW:bu ["size","keep","kind","by_cell","line","stroke","cell"] ["size","keep","kind"] (aG (top 32)):=by walk_at "s"
theorem vP(T:Txt mg)(D:bh K mg "longest_by_cell" (top 32) ["size","keep","kind"])(vY:FnAt P w K mg base "lines_of" 1 ["size","kind"] (spM K XR0 j5))(yp:FnAt P w K mg base "longest_strokes" 3 ["size","keep","kind","line"] (spO K XR0 gk))(gU:FnAt P w K mg base "stroke_cells" 1 ["stroke"] (spO K XR0 di)):FnAt P w K mg base "longest_by_cell" 4 ["size","keep","kind"] (spO K XR0 dw):=by
 refine D.ok dW (λvs H Q E h=>ir h λps r e=>match ps,e with|[_,_,_],_=>rfl) (λf cdv A outer s H vs Q E hr h=>?_)
 refine⟨_,(aq (aR (i:=3) dW.nd rfl (Or.inl rfl) rm)
   (aq (fW ZaL rfl (gW rfl T.jm (aj (aQ vY (hr.mono (by decide)) rfl (aj (pv 0) (aj (pv 2) au))) au)) (cX (i:=4) dW.nd rfl (Or.inl rfl))
    (aJ (fW ZaL rfl (ie (aQ yp (hr.mono (by decide)) rfl (aj (pv 0) (aj (pv 1) (aj (pv 2) (aj (pv 4) au)))))) (cX (i:=5) dW.nd rfl (Or.inl rfl))
     (aJ (fW ZaL rfl (ie (aQ gU (hr.mono (by decide)) rfl (aj (pv 5) au))) (cX (i:=6) dW.nd rfl (Or.inl rfl))
      (aJ (gZ (jC hr) (pv 3) (pv 6) (pv 5) rfl)))))))
   (aJ (bj (pv 3))))),ik (b:=jO) (k:=3) (n:=4) rfl (λps r e=>match ps,e with|[_,_,_],e=>⟨rfl,e⟩) h λio H0 F0 hio=>?_⟩
 exact(aM (dq (i:=3) trivial wQ)
   (aM (iH (mF (ao (bG (ao (ak 0) (ao (ak 2) aO))) aO)) (aN 4)
    (iH (jf (bK (dm (ao (ak 0) (ao (ak 1) (ao (ak 2) (ao (ak 4) aO))))))) (aN 5)
     (iH (jf (bK (dm (ao (ak 5) aO)))) (aN 6)
      (mG (ak 5) (ak 6)))))
   (mZ 3 hio)))
theorem jT:bu ["size","away","keep","along_row","along_column","crossed","cell"] ["size","away","keep"] (aG (top 33)):=by walk_at "s"
theorem IK(T:Txt mg)(D:bh K mg "crossings" (top 33) ["size","away","keep"])(o8:FnAt P w K mg base "longest_by_cell" 4 ["size","keep","kind"] (spO K XR0 dw))(qI:FnAt P w K mg base "cells_of" 3 ["size","some"] (spO K XR0 jq)):FnAt P w K mg base "crossings" 5 ["size","away","keep"] (spD K XR0 kZ):=by
 refine D.ok jT (λvs H Q E h=>wV h λps r e=>match ps,e with|[_,_,_],_=>rfl) (λf cdv A outer s H vs Q E hr h=>?_)
 refine⟨_,(aq (aR (i:=3) jT.nd rfl (Or.inl rfl) (aQ o8 (hr.mono (by decide)) rfl (aj (pv 0) (aj (pv 2) (aj (qL rfl T.Ls) au)))))
   (aq (aR (i:=4) jT.nd rfl (Or.inl rfl) (aQ o8 (hr.mono (by decide)) rfl (aj (pv 0) (aj (pv 2) (aj (qL rfl T.Lr) au)))))
   (aq (aR (i:=5) jT.nd rfl (Or.inl rfl) rm)
   (aq (fW ZaL rfl (ie (aQ qI (hr.mono (by decide)) rfl (aj (pv 0) (aj (pv 1) au)))) (cX (i:=6) jT.nd rfl (Or.inl rfl))
    (aJ (gV (qZ ZaT ZaV PySem.F.type_list_append eZ (Nh (jC hr) (pv 5) (fP hr (pv 3) (pv 6) (λ_ _=>rfl)) (jV au) ⟨rfl,rfl,rfl,rfl⟩) (aj (fP hr (pv 4) (pv 6) (λ_ _=>rfl)) au)))))
   (aJ (bj (pv 5))))))),wU (b:=rR) (k:=3) (n:=4) rfl (λps r e=>match ps,e with|[_,_,_],e=>⟨rfl,e⟩) h λio H0 F0 hio=>?_⟩
 exact(aM (bF (bK (dm (ao (ak 0) (ao (ak 2) (ao jW aO))))) (aN 3))
   (aM (bF (bK (dm (ao (ak 0) (ao (ak 2) (ao jW aO))))) (aN 4))
   (aM (ql (i:=5) trivial (Zi wQ))
   (aM (iH (jf (bK (dm (ao (ak 0) (ao (ak 1) aO))))) (aN 6)
    (Rn (i:=5) (jh (bM 3) (ak 6)) (jh (bM 4) (ak 6))))
   (JV 5)))))
theorem cR:bu ["size","away","keep","both","crossed","column_of","short","strokes","apart"] ["size","away","keep"] (aG (top 34)):=by walk_at "s"
theorem yo(T:Txt mg)(D:bh K mg "fewest_strokes" (top 34) ["size","away","keep"])(qI:FnAt P w K mg base "cells_of" 3 ["size","some"] (spO K XR0 jq))(LC:FnAt P w K mg base "crossings" 5 ["size","away","keep"] (spD K XR0 kZ))(Ja:FnAt P w K mg base "most_pairs" 2 ["wishes"] (spO K XR0 jJ))(yr:FnAt P w K mg base "short_of_givers" 2 ["wishes","giver_of"] (spM K XR0 gh))(Ef:FnAt P w K mg base "set_of" 2 ["size","cells"] (spM K XR0 pQ)):FnAt P w K mg base "fewest_strokes" 6 ["size","away","keep"] (spM K XR0 iz):=by
 refine D.ok cR (λvs H Q E h=>cZ h λps r e=>match ps,e with|[_,_,_],_=>rfl) (λf cdv A outer s H vs Q E hr h=>?_)
 refine⟨_,(aq (aR (i:=3) cR.nd rfl (Or.inl rfl) (aQ qI (hr.mono (by decide)) rfl (aj (pv 0) (aj (aZ qY (pv 1) (pv 2)) au))))
   (aq (dY (bB Jl (bN dO rfl T.nW (by decide +kernel) (aj (pv 3) au)) aB (bQ _))
    (aJ Ay)
    cB)
   (aq (aR (i:=4) cR.nd rfl (Or.inl rfl) (aQ LC (hr.mono (by decide)) rfl (aj (pv 0) (aj (pv 1) (aj (pv 2) au)))))
   (aq (aR (i:=5) cR.nd rfl (Or.inl rfl) (aQ Ja (hr.mono (by decide)) rfl (aj (pv 4) au)))
   (aq (aR (i:=6) cR.nd rfl (Or.inr rfl) (aQ yr (hr.mono (by decide)) rfl (aj (pv 4) (aj (pv 5) au))))
   (aq (aR (i:=7) cR.nd rfl (Or.inl rfl) (aZ Hk (tG 4 (d7 ["stroke","short"] [none,some 6] rfl (CW (pv 4)) (λ_ _ _ _ _=>(b8 (i:=0) (by decide +kernel) rfl rfl)) (λ_ _ _ _ _=>(qd (bB (By hr) (pvl 0) (bf iu (pvf 1) aB (λ_ _=>rfl)) (by with_unfolding_all rfl)))) (λ_ _ _ _ _=>(pvl 0)))) (bf aX (pv 6) aB (λ_ _=>rfl))))
   (aq (aR (i:=8) cR.nd rfl (Or.inl rfl) (aQ Ef (hr.mono (by decide)) rfl (aj (pv 0) (aj (tG 5 (d7 ["along_row","along_column"] [none,none] rfl (Gj (pv 5)) (λ_ _ _ _ _=>(wz (n:=2) rfl (dC (b8 (i:=0) (by decide +kernel) rfl rfl) (dC (b8 (i:=1) (by decide +kernel) rfl rfl) n6)))) (λ_ _ _ _ _=>pg) (λ_ _ _ _ _=>(dG (aj (bf iu (pvl 1) aB (λ_ _=>rfl)) (aj (bf iu (pvl 0) aB (λ_ _=>rfl)) au)))))) au))))
   (aJ (bj (dG (aj (bN uB rfl T.sS (by decide +kernel) (aj (pv 7) au)) (aj (aQ qI (hr.mono (by decide)) rfl (aj (pv 0) (aj (pv 8) au))) au)))))))))))),cY (b:=iy) (k:=3) (n:=6) rfl (λps r e=>match ps,e with|[_,_,_],e=>⟨rfl,e⟩) h λio H0 F0 hio=>?_⟩
 exact(aM (bF (bK (dm (ao (ak 0) (ao (aA aF.up zy (ak 1) (ak 2)) aO)))) (aN 3))
   (aM (dZ (bA (aA aF.up TJ (iJ m9 (bx 3)) aC))
    BK
    cC)
   (aM (ql (i:=4) trivial (tE (ao (ak 0) (ao (ak 1) (ao (ak 2) aO)))))
   (aM (xf 4 (bF (bK (dm (ao (ak 4) aO))) (aN 5)))
   (aM (bF (bG (ao (ak 4) (ao (ak 5) aO))) (aN 6))
   (aM (bF (bK (Ti aV.up TV (mz (tK 4 (λ_ _=>jy (yL 4) (aN 0) (cM 0) (bA (aA aH.up Ag (bx 0) (bH (aA aF.up b7 (ak 1) aC)))) (ak 0)))) (Ae (aA aF.up b7 (ak 6) aC)))) (aN 7))
   (aM (bF (bG (ao (ak 0) (ao (bK (tK 5 (λ_ _=>jy (CZ 5) (rC (dF (aN 0) (dF (aN 1) oh))) (Bu (iU (cM 0) (iU (cM 1) wN))) pq (fJ (ao (aA aF.up b7 (ak 1) aC) (ao (aA aF.up b7 (ak 0) aC) aO)))))) aO))) (aN 8))
   (bZ (fJ (ao (bK (lF Pz (gB 7))) (ao (bK (dm (ao (ak 0) (ao (ak 8) aO)))) aO)))))))))))
theorem IV:bu ["thing"] ["thing"] (aG (top 38)):=by walk_at "s"
theorem IW(T:Txt mg)(D:bh K mg "is_number" (top 38) ["thing"])(vX:FnAt P w K mg base "is_whole" 1 ["thing"] (spM K XR0 jY)):FnAt P w K mg base "is_number" 2 ["thing"] (spM K XR0 lq):=by
 refine D.ok IV (λvs H Q E h=>cZ h λps r e=>match ps,e with|[_],_=>rfl) (λf cdv A outer s H vs Q E hr h=>?_)
 refine⟨_,(aJ (bj (uW (aQ vX (hr.mono (by decide)) rfl (aj (pv 0) au)) (uV (jB Sg (pv 0) aB (bQ _)))))),cY (b:=oO) (k:=1) (n:=0) rfl (λps r e=>match ps,e with|[_],e=>⟨rfl,e⟩) h λio H0 F0 hio=>?_⟩
 exact(bZ (u5 (bG (ao (ak 0) aO)) (aA aF.up Y6 (ak 0) aC)))
theorem NP:bu ["size","thing"] ["size","thing"] (aG (top 39)):=by walk_at "s"
theorem NQ(T:Txt mg)(D:bh K mg "is_deed" (top 39) ["size","thing"])(zQ:FnAt P w K mg base "is_number" 2 ["thing"] (spM K XR0 lq))(RW:FnAt P w K mg base "lies_on" 3 ["size","thing"] (spM K XR0 tV)):FnAt P w K mg base "is_deed" 4 ["size","thing"] (spM K XR0 tW):=by
 refine D.ok NP (λvs H Q E h=>cZ h λps r e=>match ps,e with|[_,_],_=>rfl) (λf cdv A outer s H vs Q E hr h=>?_)
 refine⟨_,(aq (dY (PW.pt (Ff (qU (lw (bN m8 rfl T.fM (by decide +kernel) (aj (pv 1) (aj (Bg rfl T.Qz (n:="tuple") (by decide +kernel)) au))))) (Aw (bB (vf hr) (bN dO rfl T.nW (by decide +kernel) (aj (pv 1) au)) aB (bQ _)))))
    (aJ (bj ur))
    cB)
   (aq (dY (PW.pt (Ff (qU (lw (bN m8 rfl T.fM (by decide +kernel) (aj (bf aX (pv 1) aB (λ_ _=>rfl)) (aj (Bg rfl T.Yi (n:="str") (by decide +kernel)) au))))) (Aw (qU (lw (aQ zQ (hr.mono (by decide)) rfl (aj (bf aX (pv 1) aB (λ_ _=>rfl)) au)))))))
    (aJ (bj ur))
    cB)
   (aq (dY (bB (iI hr) (bf aX (pv 1) aB (λ_ _=>rfl)) (qL rfl T.VB) (bQ _))
    (aJ (bj (aQ RW (hr.mono (by decide)) rfl (aj (pv 0) (aj (bf aX (pv 1) aB (λ_ _=>rfl)) au)))))
    cB)
   (aJ (bj (uW (jB (iI hr) (bf aX (pv 1) aB (λ_ _=>rfl)) (qL rfl T.QB) (bQ _)) (uV (aQ zQ (hr.mono (by decide)) rfl (aj (bf aX (pv 1) aB (λ_ _=>rfl)) au))))))))),cY (b:=pY) (k:=2) (n:=0) rfl (λps r e=>match ps,e with|[_,_],e=>⟨rfl,e⟩) h λio H0 F0 hio=>?_⟩
 exact(aM (dZ (Fz (rB (lC (vh aH.up M4 (bx 1) Bo))) (bA (aA aH.up MN (bH (iJ m9 (bx 1))) (bH aC))))
    (bZ ut)
    cC)
   (aM (dZ (Fz (rB (lC (vh aH.up M4 (bH (aA aF.up b7 (ak 1) aC)) Bo))) (rB (lC (bG (ao (aA aF.up b7 (ak 1) aC) aO)))))
    (bZ ut)
    cC)
   (aM (dZ (bA (aA aH.up ug (bH (aA aF.up b7 (ak 1) aC)) (bH jW)))
    (bZ (bG (ao (ak 0) (ao (aA aF.up b7 (ak 1) aC) aO))))
    cC)
   (bZ (u5 (aA aH.up ug (bH (aA aF.up b7 (ak 1) aC)) (bH jW)) (bG (ao (aA aF.up b7 (ak 1) aC) aO)))))))
theorem Ey:bu ["prints","ink","many_inks"] ["prints","ink","many_inks"] (aG (top 40)):=by walk_at "s"
theorem Ez(T:Txt mg)(D:bh K mg "can_follow" (top 40) ["prints","ink","many_inks"]):FnAt P w K mg base "can_follow" 1 ["prints","ink","many_inks"] (spM K XR0 mL):=by
 refine D.ok Ey (λvs H Q E h=>cZ h λps r e=>match ps,e with|[_,_,_],_=>rfl) (λf cdv A outer s H vs Q E hr h=>?_)
 refine⟨_,(aq (dY (PW.pt (Mf (bB GQ (pv 2) uT (bQ _)) (GJ (bB Sg (pv 1) (pv 2) (bQ _)))))
    (aJ (bj ur))
    cB)
   (aJ (bj (ZS (jB (iI hr) (bN dO rfl T.nW (by decide +kernel) (aj (pv 0) au)) aB (bQ _)) (uV (jB Jl (pv 1) (bf aX (bf aX (pv 0) (Og R8 aB) (λ_ _=>rfl)) aB (λ_ _=>rfl)) (bQ _))))))),cY (b:=mK) (k:=3) (n:=0) rfl (λps r e=>match ps,e with|[_,_,_],e=>⟨rfl,e⟩) h λio H0 F0 hio=>?_⟩
 exact(aM (dZ (Mz (bA (aA aH.up M3 (bx 2) uZ)) (bA (aA aF.up Y6 (ak 1) (ak 2))))
    (bZ ut)
    cC)
   (bZ (aab (aA aH.up ug (bH (iJ m9 (bx 0))) (bH aC)) (aA aF.up TJ (ak 1) (aA aF.up b7 (aA aF.up b7 (ak 0) (T6 aC)) aC)))))
theorem dN:bu ["size","plan","many_inks","woods","prints","place","thing","wood"] ["size","plan","many_inks"] (aG (top 41)):=by walk_at "s"
theorem za(T:Txt mg)(D:bh K mg "replayed_with" (top 41) ["size","plan","many_inks"])(RX:FnAt P w K mg base "is_deed" 4 ["size","thing"] (spM K XR0 tW))(Eg:FnAt P w K mg base "all_of" 1 ["size"] (spM K XR0 pP))(LK:FnAt P w K mg base "cells_cut" 3 ["size","stroke"] (spM K XR0 oN))(Jb:FnAt P w K mg base "can_follow" 1 ["prints","ink","many_inks"] (spM K XR0 mL)):FnAt P w K mg base "replayed_with" 5 ["size","plan","many_inks"] (spO K XR0 jk):=by
 refine D.ok dN (λvs H Q E h=>ir h λps r e=>match ps,e with|[_,_,_],_=>rfl) (λf cdv A outer s H vs Q E hr h=>?_)
 refine⟨_,(aq (aR (i:=3) dN.nd rfl (Or.inl rfl) kh)
   (aq (aR (i:=4) dN.nd rfl (Or.inl rfl) (jV au))
   (aq (fW ZaL rfl (Ad rfl T.o7 (aj (pv 1) au)) (GK (n:=2) rfl (dC (cX (i:=5) dN.nd rfl (Or.inl rfl)) (dC (cX (i:=6) dN.nd rfl (Or.inl rfl)) n6)))
    (aq (dY (qU (lw (aQ RX (hr.mono (by decide)) rfl (aj (pv 0) (aj (pv 6) au)))))
     (aJ Ay)
     cB)
    (aq (aR (i:=7) dN.nd rfl (Or.inl rfl) (yG hr (pv 3) (bf aX (pv 6) aB (λ_ _=>rfl)) (aQ Eg (hr.mono (by decide)) rfl (aj (pv 0) au)) ⟨rfl,rfl,rfl,rfl⟩))
    (aJ (dY (bB (iI hr) (bf aX (pv 6) aB (λ_ _=>rfl)) (qL rfl T.VB) (bQ _))
     (aJ (gZ (jC hr) (pv 3) (bf aX (pv 6) aB (λ_ _=>rfl)) (aZ qY (pv 7) (Og R9 (aQ LK (hr.mono (by decide)) rfl (aj (pv 0) (aj (bf aX (pv 6) aB (λ_ _=>rfl)) au))))) rfl))
     (aJ (dY (lw (aQ Jb (hr.mono (by decide)) rfl (aj (pv 4) (aj (bf aX (pv 6) aB (λ_ _=>rfl)) (aj (pv 2) au)))))
      (aJ (gV (qZ ZaT ZaV PySem.F.type_list_append eZ (pv 4) (aj (dG (aj (bf aX (pv 6) aB (λ_ _=>rfl)) (aj (pv 7) au))) au))))
      (aJ Ay))))))))
   (aJ (bj (pv 4)))))),ik (b:=jj) (k:=3) (n:=5) rfl (λps r e=>match ps,e with|[_,_,_],e=>⟨rfl,e⟩) h λio H0 F0 hio=>?_⟩
 exact(aM (dq (i:=3) trivial ou)
   (aM (dq (i:=4) trivial (lD aO))
   (aM (iH (Ah (ao (ak 1) aO)) (rC (dF (aN 5) (dF (aN 6) oh)))
    (aM (dZ (rB (lC (bG (ao (ak 0) (ao (ak 6) aO)))))
     BK
     cC)
    (aM (bF (Cd (bM 3) (aA aF.up b7 (ak 6) aC) (bG (ao (ak 0) aO))) (aN 7))
    (dZ (bA (aA aH.up ug (bH (aA aF.up b7 (ak 6) aC)) (bH jW)))
     (mG (aA aF.up zy (ak 7) (Uc (bG (ao (ak 0) (ao (aA aF.up b7 (ak 6) aC) aO))))) (aA aF.up b7 (ak 6) aC))
     (dZ (lC (Tp (gC (bx 4) (gC (bH (aA aF.up b7 (ak 6) aC)) (gC (bx 2) Af)))))
      (vd (fJ (ao (aA aF.up b7 (ak 6) aC) (ao (ak 7) aO))))
      BK)))))
   (mZ 4 hio))))
theorem Ln:bu ["size","plan"] ["size","plan"] (aG (top 42)):=by walk_at "s"
theorem Lp(T:Txt mg)(D:bh K mg "replayed" (top 42) ["size","plan"])(Ab:FnAt P w K mg base "replayed_with" 5 ["size","plan","many_inks"] (spO K XR0 jk)):FnAt P w K mg base "replayed" 6 ["size","plan"] (spO K XR0 qC):=by
 refine D.ok Ln (λvs H Q E h=>ir h λps r e=>match ps,e with|[_,_],_=>rfl) (λf cdv A outer s H vs Q E hr h=>?_)
 refine⟨_,(aJ (bj (aQ Ab (hr.mono (by decide)) rfl (aj (pv 0) (aj (pv 1) (aj uT au)))))),ik (b:=qz) (k:=2) (n:=0) rfl (λps r e=>match ps,e with|[_,_],e=>⟨rfl,e⟩) h λio H0 F0 hio=>?_⟩
 exact(qg (dm (ao (ak 0) (ao (ak 1) (ao uZ aO)))))
theorem dX:bu ["states","block_of","block","chain","number"] ["states"] (aG (top 43)):=by walk_at "s"
theorem vQ(T:Txt mg)(D:bh K mg "blocks_by_state" (top 43) ["states"])(lN:FnAt P w K mg base "fewest_blocks" 3 ["states"] (spD K XR0 cV)):FnAt P w K mg base "blocks_by_state" 4 ["states"] (spO K XR0 eF):=by
 refine D.ok dX (λvs H Q E h=>ir h λps r e=>match ps,e with|[_],_=>rfl) (λf cdv A outer s H vs Q E hr h=>?_)
 refine⟨_,(aq (aR (i:=1) dX.nd rfl (Or.inl rfl) kh)
   (aq (fW ZaL rfl (Ad rfl T.o7 (aj (bf aX (aQ lN (hr.mono (by decide)) rfl (aj (pv 0) au)) aB (λ_ _=>rfl)) au)) (GK (n:=2) rfl (dC (cX (i:=2) dX.nd rfl (Or.inl rfl)) (dC (cX (i:=3) dX.nd rfl (Or.inl rfl)) n6)))
    (aJ (fW ZaL rfl (ie (pv 3)) (cX (i:=4) dX.nd rfl (Or.inl rfl))
     (aJ (gZ (jC hr) (pv 1) (pv 4) (pv 2) rfl)))))
   (aJ (bj (pv 1))))),ik (b:=gm) (k:=1) (n:=4) rfl (λps r e=>match ps,e with|[_],e=>⟨rfl,e⟩) h λio H0 F0 hio=>?_⟩
 exact(aM (dq (i:=1) trivial ou)
   (aM (iH (Ah (ao (aA aF.up b7 (Ue (tE (ao (ak 0) aO))) aC) aO)) (rC (dF (aN 2) (dF (aN 3) oh)))
    (iH (jf (ak 3)) (aN 4)
     (mG (ak 2) (ak 4))))
   (mZ 1 hio)))
theorem gR:bu ["size","states","block_of","woods","plan","number","state","block","away"] ["size","states"] (aG (top 44)):=by walk_at "s"
theorem NT(T:Txt mg)(D:bh K mg "plan_of" (top 44) ["size","states"])(yt:FnAt P w K mg base "blocks_by_state" 4 ["states"] (spO K XR0 eF))(Eg:FnAt P w K mg base "all_of" 1 ["size"] (spM K XR0 pP))(zf:FnAt P w K mg base "fewest_strokes" 6 ["size","away","keep"] (spM K XR0 iz)):FnAt P w K mg base "plan_of" 7 ["size","states"] (spO K XR0 iB):=by
 refine D.ok gR (λvs H Q E h=>ir h λps r e=>match ps,e with|[_,_],_=>rfl) (λf cdv A outer s H vs Q E hr h=>?_)
 refine⟨_,(aq (aR (i:=2) gR.nd rfl (Or.inl rfl) (aQ yt (hr.mono (by decide)) rfl (aj (pv 1) au)))
   (aq (aR (i:=3) gR.nd rfl (Or.inl rfl) kh)
   (aq (aR (i:=4) gR.nd rfl (Or.inl rfl) (jV au))
   (aq (fW ZaL rfl (Ad rfl T.o7 (aj (pv 1) au)) (GK (n:=2) rfl (dC (cX (i:=5) gR.nd rfl (Or.inl rfl)) (dC (cX (i:=6) gR.nd rfl (Or.inl rfl)) n6)))
    (aq (aR (i:=7) gR.nd rfl (Or.inr rfl) (fP hr (pv 2) (pv 5) (λ_ _=>rfl)))
    (aq (aR (i:=8) gR.nd rfl (Or.inl rfl) (aZ qY (yG hr (pv 3) (pv 7) (aQ Eg (hr.mono (by decide)) rfl (aj (pv 0) au)) ⟨rfl,rfl,rfl,rfl⟩) (Og R9 (pv 6))))
    (aq (gV (qZ ZaT PySem.F.slot_list_extend PySem.F.type_list_extend QQ (pv 4) (aj (d7 ["stroke","block"] [none,some 7] rfl (ie (bf aX (aQ zf (hr.mono (by decide)) rfl (aj (pv 0) (aj (pv 8) (aj (pv 6) au)))) aB (λ_ _=>rfl))) (λ_ _ _ _ _=>(b8 (i:=0) (by decide +kernel) rfl rfl)) (λ_ _ _ _ _=>pg) (λ_ _ _ _ _=>(dG (aj (qL (glc rfl) T.VB) (aj (pvf 1) (aj (pvl 0) au)))))) au)))
    (aq (gV (qZ ZaT ZaV PySem.F.type_list_append eZ (pv 4) (aj (dG (aj (qL rfl T.QB) (aj (pv 7) (aj (pv 5) au)))) au)))
    (aJ (gZ (jC hr) (pv 3) (pv 7) (pv 6) rfl)))))))
   (aJ (bj (pv 4))))))),ik (b:=tX) (k:=2) (n:=7) rfl (λps r e=>match ps,e with|[_,_],e=>⟨rfl,e⟩) h λio H0 F0 hio=>?_⟩
 exact(aM (bF (bK (dm (ao (ak 1) aO))) (aN 2))
   (aM (dq (i:=3) trivial ou)
   (aM (dq (i:=4) trivial (lD aO))
   (aM (iH (Ah (ao (ak 1) aO)) (rC (dF (aN 5) (dF (aN 6) oh)))
    (aM (bF (jh (bM 2) (ak 5)) (aN 7))
    (aM (bF (aA aF.up zy (Cd (bM 3) (ak 7) (bG (ao (ak 0) aO))) (Uc (ak 6))) (aN 8))
    (aM (Zo (jg (jf (aA aF.up b7 (bG (ao (ak 0) (ao (ak 8) (ao (ak 6) aO)))) aC)) (aN 0) (cM 0) pq (fJ (ao jW (ao (ak 1) (ao (ak 0) aO))))))
    (aM (vd (fJ (ao jW (ao (ak 7) (ao (ak 5) aO)))))
    (mG (ak 6) (ak 7)))))))
   (mZ 4 hio)))))
theorem zb:bu ["_law_script","_law_k","_law_number"] ["_law_script","_law_k"] (aG (top 46)):=by walk_at "s"
theorem RT(T:Txt mg)(D:bh K mg "_law_cell" (top 46) ["_law_script","_law_k"]):FnAt P w K mg base "_law_cell" 1 ["_law_script","_law_k"] (spM K XR0 dJ):=by
 refine D.ok zb (λvs H Q E h=>cZ h λps r e=>match ps,e with|[_,_],_=>rfl) (λf cdv A outer s H vs Q E hr h=>?_)
 refine⟨_,(aq (dY (bB vg (pv 1) (bN dO rfl T.nW (by decide +kernel) (aj (pv 0) au)) (bQ _))
    (aJ (bj (bf aX (pv 0) (pv 1) (λ_ _=>rfl))))
    cB)
   (aq (aR (i:=2) zb.nd rfl (Or.inl rfl) (aZ cP (aZ d9 (pv 1) (pv 1)) aB))
   (aq (dY (bB Jl (bN dO rfl T.nW (by decide +kernel) (aj (pv 0) au)) aB (bQ _))
    (aJ (aR (i:=2) zb.nd rfl (Or.inl rfl) (aZ cP (pv 2) (aZ fH (bf aX (pv 0) (aZ fH (aZ d9 (pv 1) aB) (bN dO rfl T.nW (by decide +kernel) (aj (pv 0) au))) (λ_ _=>rfl)) aB))))
    cB)
   (aJ (bj (aZ fH (aZ d9 (pv 2) (pv 2)) aB)))))),cY (b:=rZ) (k:=2) (n:=1) rfl (λps r e=>match ps,e with|[_,_],e=>⟨rfl,e⟩) h λio H0 F0 hio=>?_⟩
 exact(aM (dZ (bA (aA aF.up MK (ak 1) (iJ m9 (bx 0))))
    (bZ (aA aF.up b7 (ak 0) (ak 1)))
    cC)
   (aM (bF (aA aF.up fY (aA aF.up kE (ak 1) (ak 1)) aC) (aN 2))
   (aM (dZ (bA (aA aF.up TJ (iJ m9 (bx 0)) aC))
    (bF (aA aF.up fY (ak 2) (aA aF.up jE (aA aF.up b7 (ak 0) (aA aF.up jE (aA aF.up kE (ak 1) aC) (iJ m9 (bx 0)))) aC)) (aN 2))
    cC)
   (bZ (aA aF.up jE (aA aF.up kE (ak 2) (ak 2)) aC)))))
theorem vR:bu ["_law_cell_here","_law_k","_law_number"] ["_law_cell_here","_law_k"] (aG (top 47)):=by walk_at "s"
theorem NZ(T:Txt mg)(D:bh K mg "_law_mixed" (top 47) ["_law_cell_here","_law_k"]):FnAt P w K mg base "_law_mixed" 1 ["_law_cell_here","_law_k"] (spM K XR0 bJ):=by
 refine D.ok vR (λvs H Q E h=>cZ h λps r e=>match ps,e with|[_,_],_=>rfl) (λf cdv A outer s H vs Q E hr h=>?_)
 refine⟨_,(aq (dY (bB Sg (pv 0) (aZ Yx aB aB) (bQ _))
    (aJ (bj (aZ qY (aZ R7 (pv 0) (aZ d9 aB (pv 1))) aB)))
    cB)
   (aq (aR (i:=2) vR.nd rfl (Or.inl rfl) (aZ fH (aZ d9 (aZ cP (aZ cP (aZ cP (aZ fH (pv 0) aB) (aZ d9 (aZ d9 aB (pv 1)) (pv 1))) (pv 1)) aB) aB) aB))
   (aq (aR (i:=2) vR.nd rfl (Or.inl rfl) (aZ fH (aZ d9 (pv 2) (pv 2)) aB))
   (aJ (bj (aZ fH (aZ d9 (aZ cP (pv 2) (pv 1)) aB) aB)))))),cY (b:=qD) (k:=2) (n:=1) rfl (λps r e=>match ps,e with|[_,_],e=>⟨rfl,e⟩) h λio H0 F0 hio=>?_⟩
 exact(aM (dZ (bA (aA aF.up Y6 (ak 0) (aA aF.up aak aC aC)))
    (bZ (aA aF.up zy (aA aF.up XF (ak 0) (aA aF.up kE aC (ak 1))) aC))
    cC)
   (aM (bF (aA aF.up jE (aA aF.up kE (aA aF.up fY (aA aF.up fY (aA aF.up fY (aA aF.up jE (ak 0) aC) (aA aF.up kE (aA aF.up kE aC (ak 1)) (ak 1))) (ak 1)) aC) aC) aC) (aN 2))
   (aM (bF (aA aF.up jE (aA aF.up kE (ak 2) (ak 2)) aC) (aN 2))
   (bZ (aA aF.up jE (aA aF.up kE (aA aF.up fY (ak 2) (ak 1)) aC) aC)))))
theorem GC:bu ["_law_cell_here","_law_number"] ["_law_cell_here"] (aG (top 48)):=by walk_at "s"
theorem RV(T:Txt mg)(D:bh K mg "_law_size" (top 48) ["_law_cell_here"])(cU:FnAt P w K mg base "_law_mixed" 1 ["_law_cell_here","_law_k"] (spM K XR0 bJ)):FnAt P w K mg base "_law_size" 2 ["_law_cell_here"] (spM K XR0 lu):=by
 refine D.ok GC (λvs H Q E h=>cZ h λps r e=>match ps,e with|[_],_=>rfl) (λf cdv A outer s H vs Q E hr h=>?_)
 refine⟨_,(aq (aR (i:=1) GC.nd rfl (Or.inl rfl) (aQ cU (hr.mono (by decide)) rfl (aj (pv 0) (aj aB au))))
   (aq (dY (bB (iI hr) (aZ fH (aQ cU (hr.mono (by decide)) rfl (aj (pv 0) (aj aB au))) aB) aB (bQ _))
    (aJ (bj (dG (aj (aZ cP aB (aZ fH (pv 1) aB)) (aj (aZ cP aB (aZ fH (aZ Ac (pv 1) aB) aB)) au)))))
    cB)
   (aJ (bj (dG (aj (aZ cP aB (aZ fH (pv 1) aB)) (aj (aZ cP aB (aZ fH (aZ Ac (pv 1) aB) aB)) au))))))),cY (b:=oY) (k:=1) (n:=1) rfl (λps r e=>match ps,e with|[_],e=>⟨rfl,e⟩) h λio H0 F0 hio=>?_⟩
 exact(aM (bF (bG (ao (ak 0) (ao aC aO))) (aN 1))
   (aM (dZ (bA (aA aH.up ug (bH (aA aF.up jE (bG (ao (ak 0) (ao aC aO))) aC)) (bH aC)))
    (bZ (fJ (ao (aA aF.up fY aC (aA aF.up jE (ak 1) aC)) (ao (aA aF.up fY aC (aA aF.up jE (aA aF.up Oz (ak 1) aC) aC)) aO))))
    cC)
   (bZ (fJ (ao (aA aF.up fY aC (aA aF.up jE (ak 1) aC)) (ao (aA aF.up fY aC (aA aF.up jE (aA aF.up Oz (ak 1) aC) aC)) aO))))))
theorem nU:bu ["_law_size_here","_law_cell_here","_law_k","_law_many","_law_number","_law_j","_law_kind"] ["_law_size_here","_law_cell_here","_law_k"] (aG (top 49)):=by walk_at "s"
theorem Vz(T:Txt mg)(D:bh K mg "_law_set" (top 49) ["_law_size_here","_law_cell_here","_law_k"])(cU:FnAt P w K mg base "_law_mixed" 1 ["_law_cell_here","_law_k"] (spM K XR0 bJ)):FnAt P w K mg base "_law_set" 2 ["_law_size_here","_law_cell_here","_law_k"] (spM K XR0 nH):=by
 refine D.ok nU (λvs H Q E h=>cZ h λps r e=>match ps,e with|[_,_,_],_=>rfl) (λf cdv A outer s H vs Q E hr h=>?_)
 refine⟨_,(aq (aR (i:=3) nU.nd rfl (Or.inl rfl) (aZ d9 (bf aX (pv 0) aB (λ_ _=>rfl)) (bf aX (pv 0) aB (λ_ _=>rfl))))
   (aq (aR (i:=4) nU.nd rfl (Or.inl rfl) aB)
   (aq (fW ZaL rfl (gW rfl T.jm (aj (aZ cP aB (aZ Ac (pv 3) aB)) au)) (cX (i:=5) nU.nd rfl (Or.inl rfl))
    (aJ (aR (i:=4) nU.nd rfl (Or.inl rfl) (aZ cP (aZ d9 (pv 4) aB) (aQ cU (hr.mono (by decide)) rfl (aj (pv 1) (aj (aZ cP (aZ d9 aB (pv 2)) (pv 5)) au)))))))
   (aq (aR (i:=4) nU.nd rfl (Or.inl rfl) (aZ fH (pv 4) (aZ Bc aB (pv 3))))
   (aq (aR (i:=6) nU.nd rfl (Or.inl rfl) (aZ fH (aQ cU (hr.mono (by decide)) rfl (aj (pv 1) (aj (aZ cP (aZ d9 aB (pv 2)) aB) au))) aB))
   (aq (dY (bB (iI hr) (pv 6) aB (bQ _))
    (aJ (bj (aZ Bb (aZ Bc aB (pv 3)) aB)))
    cB)
   (aq (dY (bB (iI hr) (pv 6) aB (bQ _))
    (aJ (bj aB))
    cB)
   (aJ (bj (pv 4)))))))))),cY (b:=qF) (k:=3) (n:=4) rfl (λps r e=>match ps,e with|[_,_,_],e=>⟨rfl,e⟩) h λio H0 F0 hio=>?_⟩
 exact(aM (bF (aA aF.up kE (aA aF.up b7 (ak 0) aC) (aA aF.up b7 (ak 0) aC)) (aN 3))
   (aM (bF aC (aN 4))
   (aM (iH (mF (ao (aA aF.up fY aC (aA aF.up Oz (ak 3) aC)) aO)) (aN 5)
    (bF (aA aF.up fY (aA aF.up kE (ak 4) aC) (bG (ao (ak 1) (ao (aA aF.up fY (aA aF.up kE aC (ak 2)) (ak 5)) aO)))) (aN 4)))
   (aM (bF (aA aF.up jE (ak 4) (aA aF.up JH aC (ak 3))) (aN 4))
   (aM (bF (aA aF.up jE (bG (ao (ak 1) (ao (aA aF.up fY (aA aF.up kE aC (ak 2)) aC) aO))) aC) (aN 6))
   (aM (dZ (bA (aA aH.up ug (bx 6) (bH aC)))
    (bZ (aA aF.up JG (aA aF.up JH aC (ak 3)) aC))
    cC)
   (aM (dZ (bA (aA aH.up ug (bx 6) (bH aC)))
    (bZ aC)
    cC)
   (bZ (ak 4)))))))))
theorem fG:bu ["_law_script","_law_size_here","_law_many","_law_states_here","_law_k","_law_cell_here","_law_state","_law_way"] ["_law_script","_law_size_here","_law_many"] (aG (top 50)):=by walk_at "s"
theorem Lq(T:Txt mg)(D:bh K mg "_law_states" (top 50) ["_law_script","_law_size_here","_law_many"])(o9:FnAt P w K mg base "_law_cell" 1 ["_law_script","_law_k"] (spM K XR0 dJ))(N6:FnAt P w K mg base "_law_set" 2 ["_law_size_here","_law_cell_here","_law_k"] (spM K XR0 nH))(cU:FnAt P w K mg base "_law_mixed" 1 ["_law_cell_here","_law_k"] (spM K XR0 bJ)):FnAt P w K mg base "_law_states" 3 ["_law_script","_law_size_here","_law_many"] (spO K XR0 jb):=by
 refine D.ok fG (λvs H Q E h=>ir h λps r e=>match ps,e with|[_,_,_],_=>rfl) (λf cdv A outer s H vs Q E hr h=>?_)
 refine⟨_,(aq (aR (i:=3) fG.nd rfl (Or.inl rfl) (jV au))
   (aq (fW ZaL rfl (gW rfl T.jm (aj (pv 2) au)) (cX (i:=4) fG.nd rfl (Or.inl rfl))
    (aq (aR (i:=5) fG.nd rfl (Or.inl rfl) (aQ o9 (hr.mono (by decide)) rfl (aj (pv 0) (aj (aZ cP aB (pv 4)) au))))
    (aq (aR (i:=6) fG.nd rfl (Or.inl rfl) (aQ N6 (hr.mono (by decide)) rfl (aj (pv 1) (aj (pv 5) (aj (pv 4) au)))))
    (aq (aR (i:=7) fG.nd rfl (Or.inl rfl) (aZ fH (aQ cU (hr.mono (by decide)) rfl (aj (pv 5) (aj aB au))) aB))
    (aq (dY (PW.pt (Mf (bB Jl (pv 4) aB (bQ _)) (GJ (bB vg (pv 7) aB (bQ _)))))
     (aJ (aR (i:=6) fG.nd rfl (Or.inl rfl) (aZ qY (pv 6) (bf aX (pv 3) (aZ fH (aQ cU (hr.mono (by decide)) rfl (aj (pv 5) (aj aB au))) (pv 4)) (λ_ _=>rfl)))))
     cB)
    (aq (dY (PW.pt (Mf (bB Jl (pv 4) aB (bQ _)) (GJ (bB (iI hr) (pv 7) aB (bQ _)))))
     (aJ (aR (i:=6) fG.nd rfl (Or.inl rfl) (bf aX (pv 3) (aZ fH (aQ cU (hr.mono (by decide)) rfl (aj (pv 5) (aj aB au))) (pv 4)) (λ_ _=>rfl))))
     cB)
    (aJ (gV (qZ ZaT ZaV PySem.F.type_list_append eZ (pv 3) (aj (pv 6) au))))))))))
   (aJ (bj (pv 3))))),ik (b:=j8) (k:=3) (n:=5) rfl (λps r e=>match ps,e with|[_,_,_],e=>⟨rfl,e⟩) h λio H0 F0 hio=>?_⟩
 exact(aM (dq (i:=3) trivial (lD aO))
   (aM (iH (mF (ao (ak 2) aO)) (aN 4)
    (aM (bF (bG (ao (ak 0) (ao (aA aF.up fY aC (ak 4)) aO))) (aN 5))
    (aM (bF (bG (ao (ak 1) (ao (ak 5) (ao (ak 4) aO)))) (aN 6))
    (aM (bF (aA aF.up jE (bG (ao (ak 5) (ao aC aO))) aC) (aN 7))
    (aM (dZ (Mz (bA (aA aF.up TJ (ak 4) aC)) (bA (aA aF.up MK (ak 7) aC)))
     (bF (aA aF.up zy (ak 6) (aA aV.up OD (gB 3) (aA aF.up jE (bG (ao (ak 5) (ao aC aO))) (ak 4)))) (aN 6))
     cC)
    (aM (dZ (Mz (bA (aA aF.up TJ (ak 4) aC)) (bA (aA aH.up ug (bx 7) (bH aC))))
     (bF (aA aV.up OD (gB 3) (aA aF.up jE (bG (ao (ak 5) (ao aC aO))) (ak 4))) (aN 6))
     cC)
    (vd (ak 6))))))))
   (mZ 3 hio)))
theorem lM:bu ["_law_script","_law_size_here","_law_states_here","_law_handed","_law_plan","_law_numbers","_law_first","_law_block","_law_printed","_law_k","_law_ahead","_law_kept"] ["_law_script"] (aG (top 51)):=by walk_at "s"
theorem ZK(T:Txt mg){f:Addr}{fd:FuncData}(F:Fun K "law" "law" (top 51) f fd)(LQ:FnAt P w K mg base "_law_size" 2 ["_law_cell_here"] (spM K XR0 lu))(o9:FnAt P w K mg base "_law_cell" 1 ["_law_script","_law_k"] (spM K XR0 dJ))(Fb:FnAt P w K mg base "_law_states" 3 ["_law_script","_law_size_here","_law_many"] (spO K XR0 jb))(cU:FnAt P w K mg base "_law_mixed" 1 ["_law_cell_here","_law_k"] (spM K XR0 bJ))(ue:FnAt P w K mg base "plan_of" 7 ["size","states"] (spO K XR0 iB))(N7:FnAt P w K mg base "replayed" 6 ["size","plan"] (spO K XR0 qC))(lN:FnAt P w K mg base "fewest_blocks" 3 ["states"] (spD K XR0 cV)):Ek P w K mg base CX0 8 f fd ["_law_script"] (spM K XR0 Gm):=by
 refine F.ok lM (λvs H Q E h=>cZ h λps r e=>match ps,e with|[_],_=>rfl) (λcdv A outer s H vs Q E hr h=>?_)
 refine⟨_,(aq (aR (i:=1) lM.nd rfl (Or.inl rfl) (aQ LQ (hr.mono (by decide)) rfl (aj (aQ o9 (hr.mono (by decide)) rfl (aj (pv 0) (aj aB au))) au)))
   (aq (aR (i:=2) lM.nd rfl (Or.inr rfl) (aQ Fb (hr.mono (by decide)) rfl (aj (pv 0) (aj (pv 1) (aj (aZ cP aB (aZ fH (aQ cU (hr.mono (by decide)) rfl (aj (aQ o9 (hr.mono (by decide)) rfl (aj (pv 0) (aj aB au))) (aj aB au))) aB)) au)))))
   (aq (aR (i:=3) lM.nd rfl (Or.inl rfl) (gY mq rfl T.zc (by decide +kernel) (aj (pv 2) au)))
   (aq (aR (i:=4) lM.nd rfl (Or.inl rfl) (aQ ue (hr.mono (by decide)) rfl (aj (pv 1) (aj (pv 3) au))))
   (aq (dY (PW.pt (Ff (qU (lw (bN m8 rfl T.fM (by decide +kernel) (aj (pv 4) (aj (Bg rfl T.zc (n:="list") (by decide +kernel)) au))))) (Ff (bB (vf hr) (pv 3) (pv 2) (bQ _)) (Aw (bB (vf hr) (aQ ue (hr.mono (by decide)) rfl (aj (pv 1) (aj (pv 3) au))) (pv 4) (bQ _))))))
    (aJ (bj ur))
    cB)
   (aq (dY (bB (vf hr) (aQ N7 (hr.mono (by decide)) rfl (aj (pv 1) (aj (pv 4) au))) (d7 ["_law_k","_law_states_here"] [none,some 2] rfl (gW rfl T.jm (aj (bN dO rfl T.nW (by decide +kernel) (aj (pv 2) au)) au)) (λ_ _ _ _ _=>(b8 (i:=0) (by decide +kernel) rfl rfl)) (λ_ _ _ _ _=>pg) (λ_ _ _ _ _=>(dG (aj (pvl 0) (aj (bf iu (pvf 1) (pvl 0) (λ_ _=>rfl)) au))))) (bQ _))
    (aJ (bj ur))
    cB)
   (aq (Ot (i:=5) ["_law_deed"] [none] rfl lM.nd rfl rfl (ie (pv 4)) (λ_ _ _ _ _=>(b8 (i:=0) (by decide +kernel) rfl rfl)) (λ_ _ _ _ _=>(qd (bB (Wu hr) (bf iu (pvl 0) aB (λ_ _=>rfl)) Yo (bQ _)))) (λ_ _ _ _ _=>(bf iu (pvl 0) aB (λ_ _=>rfl))))
   (aq (aR (i:=6) lM.nd rfl (Or.inl rfl) (jV au))
   (aq (fW ZaL rfl (ie (pv 5)) (cX (i:=7) lM.nd rfl (Or.inl rfl))
    (aJ (dY (bB (yz hr) (pv 7) (pv 6) (by with_unfolding_all rfl))
     (aJ (gV (qZ ZaT ZaV PySem.F.type_list_append eZ (pv 6) (aj (pv 7) au))))
     cB)))
   (aq (dY (bB (vf hr) (pv 6) (gY (Rh rfl) rfl T.zc (by decide +kernel) (aj (gY Rf rfl T.jm (by decide +kernel) (aj (bN dO rfl T.nW (by decide +kernel) (aj (bf aX (aQ lN (hr.mono (by decide)) rfl (aj (pv 2) au)) aB (λ_ _=>rfl)) au)) au)) au)) (bQ _))
    (aJ (bj ur))
    cB)
   (aq (aR (i:=8) lM.nd rfl (Or.inl rfl) kh)
   (aq (fW ZaL rfl (gW rfl T.jm (aj (bN dO rfl T.nW (by decide +kernel) (aj (pv 2) au)) au)) (cX (i:=9) lM.nd rfl (Or.inl rfl))
    (aq (aR (i:=10) lM.nd rfl (Or.inl rfl) (yG hr (pv 8) (bf aX (pv 5) (pv 9) (λ_ _=>rfl)) (aZ Bb (aZ Bc aB (aZ d9 (bf aX (pv 1) aB (λ_ _=>rfl)) (bf aX (pv 1) aB (λ_ _=>rfl)))) aB) ⟨rfl,rfl,rfl,rfl⟩))
    (aq (dY (bB (vf hr) (aZ qY (bf aX (pv 2) (pv 9) (λ_ _=>rfl)) (pv 10)) (bf aX (pv 2) (pv 9) (λ_ _=>rfl)) (bQ _))
     (aJ (bj ur))
     cB)
    (aJ (gZ (jC hr) (pv 8) (bf aX (pv 5) (pv 9) (λ_ _=>rfl)) (bf aX (pv 2) (pv 9) (λ_ _=>rfl)) rfl)))))
   (aq (aR (i:=11) lM.nd rfl (Or.inl rfl) (gY mq rfl T.zc (by decide +kernel) (aj (pv 4) au)))
   (aq (gV (qZ ZaT ZaV PySem.F.type_list_append eZ (pv 4) (aj uT au)))
   (aJ (bj (uW (jB (iI hr) (aQ ue (hr.mono (by decide)) rfl (aj (pv 1) (aj (pv 2) au))) (pv 11) (bQ _)) (uV (jB (iI hr) (aQ ue (hr.mono (by decide)) rfl (aj (pv 1) (aj (jV au) au))) (jV au) (bQ _)))))))))))))))))))),cY (b:=Qf) (k:=1) (n:=11) rfl (λps r e=>match ps,e with|[_],e=>⟨rfl,e⟩) h λio H0 F0 hio=>?_⟩
 exact(aM (bF (bG (ao (bG (ao (ak 0) (ao aC aO))) aO)) (aN 1))
   (aM (bF (bK (dm (ao (ak 0) (ao (ak 1) (ao (aA aF.up fY aC (aA aF.up jE (bG (ao (bG (ao (ak 0) (ao aC aO))) (ao aC aO))) aC)) aO))))) (aN 2))
   (aM (bF (bK (lF Hn (gB 2))) (aN 3))
   (aM (dq (i:=4) trivial (dm (ao (ak 1) (ao (ak 3) aO))))
   (aM (dZ (Fz (rB (lC (vh aH.up M4 (bx 4) Bo))) (Fz (bA (aA aH.up MN (bx 3) (bx 2))) (bA (aA aH.up MN (bH (bK (dm (ao (ak 1) (ao (ak 3) aO))))) (bx 4)))))
    (bZ ut)
    cC)
   (aM (dZ (bA (aA aH.up MN (bH (bK (U4 (gC (bx 1) (gC (bx 4) Af))))) (bH (bK (jg (mF (ao (iJ m9 (bx 2)) aO)) (aN 0) (cM 0) pq (fJ (ao (ak 0) (ao (aA aF.up b7 (ak 1) (ak 0)) aO))))))))
    (bZ ut)
    cC)
   (aM (bF (bK (JK (T5 (gB 4)) (aN 0) (cM 0) (bA (aA aH.up ug (bH (aA aF.up b7 (ak 0) aC)) (bH jW))) (aA aF.up b7 (ak 0) aC))) (aN 5))
   (aM (dq (i:=6) trivial (lD aO))
   (aM (iH (jf (ak 5)) (aN 7)
    (dZ (bA (aA aH.up Ag (bx 7) (bx 6)))
     (vd (ak 7))
     cC))
   (aM (dZ (bA (aA aH.up MN (bx 6) (bH (bK (Ww (iJ m9 (bH (aA aF.up b7 (Ue (tE (ao (ak 2) aO))) aC))))))))
    (bZ ut)
    cC)
   (aM (dq (i:=8) trivial ou)
   (aM (iH (mF (ao (iJ m9 (bx 2)) aO)) (aN 9)
    (aM (bF (Cd (bM 8) (aA aF.up b7 (ak 5) (ak 9)) (aA aF.up JG (aA aF.up JH aC (aA aF.up kE (aA aF.up b7 (ak 1) aC) (aA aF.up b7 (ak 1) aC))) aC)) (aN 10))
    (aM (dZ (bA (aA aH.up MN (bH (aA aF.up zy (aA aF.up b7 (ak 2) (ak 9)) (ak 10))) (bH (aA aF.up b7 (ak 2) (ak 9)))))
     (bZ ut)
     cC)
    (mG (aA aF.up b7 (ak 2) (ak 9)) (aA aF.up b7 (ak 5) (ak 9))))))
   (aM (bF (bK (lF Hn (gB 4))) (aN 11))
   (aM (vd uZ)
   (bZ (u5 (aA aH.up ug (bH (bK (dm (ao (ak 1) (ao (ak 2) aO))))) (bx 11)) (aA aH.up ug (bH (bK (dm (ao (ak 1) (ao (bK (lD aO)) aO))))) (bH (bK (lD aO))))))))))))))))))))
end
theorem ZL{l:PySem.W.OpenLaw}{w:World}{K:Frag}{h:Heap}{mg:Str->Option Value}{fa f0 f1 f2 f3 f4 f5 f6 f7 f8 f9 f10 f11 f12 f13 f14 f15 f16 f17 f18 f19 f20 f21 f22 f23 f24 f25 f26 f27 f28 f29 f30 f31 f32 f33 f34 f35 f36 f37:Addr}(X:K.In h)(G:h.Ns mainGlobals mg)(hfa:mg "law"=some (.ref fa))
  {od0 an0 od1 an1 od2 an2 od3 an3 od4 an4 od5 an5 od6 an6 od7 an7 od8 an8 od9 an9 od10 an10 od11 an11 od12 an12 od13 an13 od14 an14 od15 an15 od16 an16 od17 an17 od18 an18 od19 an19 od20 an20 od21 an21 od22 an22 od23 an23 od24 an24 od25 an25 od26 an26 od27 an27 od28 an28 od29 an29 od30 an30 od31 an31 od32 an32 od33 an33 od34 an34 od35 an35 od36 an36 od37 an37:Option Addr}{sl0 sl1 sl2 sl3 sl4 sl5 sl6 sl7 sl8 sl9 sl10 sl11 sl12 sl13 sl14 sl15 sl16 sl17 sl18 sl19 sl20 sl21 sl22 sl23 sl24 sl25 sl26 sl27 sl28 sl29 sl30 sl31 sl32 sl33 sl34 sl35 sl36 sl37:Array (Option Value)}{oc0 kV0 dc0 pm0 cd0 ct0 oc1 kV1 dc1 pm1 cd1 ct1 oc2 kV2 dc2 pm2 cd2 ct2 oc3 kV3 dc3 pm3 cd3 ct3 oc4 kV4 dc4 pm4 cd4 ct4 oc5 kV5 dc5 pm5 cd5 ct5 oc6 kV6 dc6 pm6 cd6 ct6 oc7 kV7 dc7 pm7 cd7 ct7 oc8 kV8 dc8 pm8 cd8 ct8 oc9 kV9 dc9 pm9 cd9 ct9 oc10 kV10 dc10 pm10 cd10 ct10 oc11 kV11 dc11 pm11 cd11 ct11 oc12 kV12 dc12 pm12 cd12 ct12 oc13 kV13 dc13 pm13 cd13 ct13 oc14 kV14 dc14 pm14 cd14 ct14 oc15 kV15 dc15 pm15 cd15 ct15 oc16 kV16 dc16 pm16 cd16 ct16 oc17 kV17 dc17 pm17 cd17 ct17 oc18 kV18 dc18 pm18 cd18 ct18 oc19 kV19 dc19 pm19 cd19 ct19 oc20 kV20 dc20 pm20 cd20 ct20 oc21 kV21 dc21 pm21 cd21 ct21 oc22 kV22 dc22 pm22 cd22 ct22 oc23 kV23 dc23 pm23 cd23 ct23 oc24 kV24 dc24 pm24 cd24 ct24 oc25 kV25 dc25 pm25 cd25 ct25 oc26 kV26 dc26 pm26 cd26 ct26 oc27 kV27 dc27 pm27 cd27 ct27 oc28 kV28 dc28 pm28 cd28 ct28 oc29 kV29 dc29 pm29 cd29 ct29 oc30 kV30 dc30 pm30 cd30 ct30 oc31 kV31 dc31 pm31 cd31 ct31 oc32 kV32 dc32 pm32 cd32 ct32 oc33 kV33 dc33 pm33 cd33 ct33 oc34 kV34 dc34 pm34 cd34 ct34 oc35 kV35 dc35 pm35 cd35 ct35 oc36 kV36 dc36 pm36 cd36 ct36 oc37 kV37 dc37 pm37 cd37 ct37:Value}{t_COLUMN t_CUT t_PRINT t_ROW:Tok}
  (a0:nsIn K mainGlobals "is_whole"=some (some (.ref f0)))(l0:K.lookup f0=some ⟨oc0,od0,.func (fnOf "is_whole" "is_whole" (bz (top 5)) (bw (top 5)) (aG (top 5)) .none kV0 dc0 pm0 an0 cd0 ct0),sl0⟩)(c0:codeIn K cd0 "is_whole"=true)(k0:keepIn K (.ref f0)=true)
  (a1:nsIn K mainGlobals "place_of"=some (some (.ref f1)))(l1:K.lookup f1=some ⟨oc1,od1,.func (fnOf "place_of" "place_of" (bz (top 6)) (bw (top 6)) (aG (top 6)) .none kV1 dc1 pm1 an1 cd1 ct1),sl1⟩)(c1:codeIn K cd1 "place_of"=true)(k1:keepIn K (.ref f1)=true)
  (a2:nsIn K mainGlobals "has_cell"=some (some (.ref f2)))(l2:K.lookup f2=some ⟨oc2,od2,.func (fnOf "has_cell" "has_cell" (bz (top 7)) (bw (top 7)) (aG (top 7)) .none kV2 dc2 pm2 an2 cd2 ct2),sl2⟩)(c2:codeIn K cd2 "has_cell"=true)(k2:keepIn K (.ref f2)=true)
  (a3:nsIn K mainGlobals "all_cells"=some (some (.ref f3)))(l3:K.lookup f3=some ⟨oc3,od3,.func (fnOf "all_cells" "all_cells" (bz (top 8)) (bw (top 8)) (aG (top 8)) .none kV3 dc3 pm3 an3 cd3 ct3),sl3⟩)(c3:codeIn K cd3 "all_cells"=true)(k3:keepIn K (.ref f3)=true)
  (a4:nsIn K mainGlobals "all_of"=some (some (.ref f4)))(l4:K.lookup f4=some ⟨oc4,od4,.func (fnOf "all_of" "all_of" (bz (top 9)) (bw (top 9)) (aG (top 9)) .none kV4 dc4 pm4 an4 cd4 ct4),sl4⟩)(c4:codeIn K cd4 "all_of"=true)(k4:keepIn K (.ref f4)=true)
  (a5:nsIn K mainGlobals "set_of"=some (some (.ref f5)))(l5:K.lookup f5=some ⟨oc5,od5,.func (fnOf "set_of" "set_of" (bz (top 10)) (bw (top 10)) (aG (top 10)) .none kV5 dc5 pm5 an5 cd5 ct5),sl5⟩)(c5:codeIn K cd5 "set_of"=true)(k5:keepIn K (.ref f5)=true)
  (a6:nsIn K mainGlobals "cells_of"=some (some (.ref f6)))(l6:K.lookup f6=some ⟨oc6,od6,.func (fnOf "cells_of" "cells_of" (bz (top 11)) (bw (top 11)) (aG (top 11)) .none kV6 dc6 pm6 an6 cd6 ct6),sl6⟩)(c6:codeIn K cd6 "cells_of"=true)(k6:keepIn K (.ref f6)=true)
  (a7:nsIn K mainGlobals "within"=some (some (.ref f7)))(l7:K.lookup f7=some ⟨oc7,od7,.func (fnOf "within" "within" (bz (top 12)) (bw (top 12)) (aG (top 12)) .none kV7 dc7 pm7 an7 cd7 ct7),sl7⟩)(c7:codeIn K cd7 "within"=true)(k7:keepIn K (.ref f7)=true)
  (a8:nsIn K mainGlobals "walked"=some (some (.ref f8)))(l8:K.lookup f8=some ⟨oc8,od8,.func (fnOf "walked" "walked" (bz (top 14)) (bw (top 14)) (aG (top 14)) .none kV8 dc8 pm8 an8 cd8 ct8),sl8⟩)(c8:codeIn K cd8 "walked"=true)(k8:keepIn K (.ref f8)=true)
  (a9:nsIn K mainGlobals "pair_anew"=some (some (.ref f9)))(l9:K.lookup f9=some ⟨oc9,od9,.func (fnOf "pair_anew" "pair_anew" (bz (top 15)) (bw (top 15)) (aG (top 15)) .none kV9 dc9 pm9 an9 cd9 ct9),sl9⟩)(c9:codeIn K cd9 "pair_anew"=true)(k9:keepIn K (.ref f9)=true)
  (a10:nsIn K mainGlobals "most_pairs"=some (some (.ref f10)))(l10:K.lookup f10=some ⟨oc10,od10,.func (fnOf "most_pairs" "most_pairs" (bz (top 16)) (bw (top 16)) (aG (top 16)) .none kV10 dc10 pm10 an10 cd10 ct10),sl10⟩)(c10:codeIn K cd10 "most_pairs"=true)(k10:keepIn K (.ref f10)=true)
  (a11:nsIn K mainGlobals "short_of_givers"=some (some (.ref f11)))(l11:K.lookup f11=some ⟨oc11,od11,.func (fnOf "short_of_givers" "short_of_givers" (bz (top 17)) (bw (top 17)) (aG (top 17)) .none kV11 dc11 pm11 an11 cd11 ct11),sl11⟩)(c11:codeIn K cd11 "short_of_givers"=true)(k11:keepIn K (.ref f11)=true)
  (a12:nsIn K mainGlobals "states_ahead"=some (some (.ref f12)))(l12:K.lookup f12=some ⟨oc12,od12,.func (fnOf "states_ahead" "states_ahead" (bz (top 19)) (bw (top 19)) (aG (top 19)) .none kV12 dc12 pm12 an12 cd12 ct12),sl12⟩)(c12:codeIn K cd12 "states_ahead"=true)(k12:keepIn K (.ref f12)=true)
  (a13:nsIn K mainGlobals "chains_by"=some (some (.ref f13)))(l13:K.lookup f13=some ⟨oc13,od13,.func (fnOf "chains_by" "chains_by" (bz (top 20)) (bw (top 20)) (aG (top 20)) .none kV13 dc13 pm13 an13 cd13 ct13),sl13⟩)(c13:codeIn K cd13 "chains_by"=true)(k13:keepIn K (.ref f13)=true)
  (a14:nsIn K mainGlobals "fewest_blocks"=some (some (.ref f14)))(l14:K.lookup f14=some ⟨oc14,od14,.func (fnOf "fewest_blocks" "fewest_blocks" (bz (top 21)) (bw (top 21)) (aG (top 21)) .none kV14 dc14 pm14 an14 cd14 ct14),sl14⟩)(c14:codeIn K cd14 "fewest_blocks"=true)(k14:keepIn K (.ref f14)=true)
  (a15:nsIn K mainGlobals "is_stroke"=some (some (.ref f15)))(l15:K.lookup f15=some ⟨oc15,od15,.func (fnOf "is_stroke" "is_stroke" (bz (top 25)) (bw (top 25)) (aG (top 25)) .none kV15 dc15 pm15 an15 cd15 ct15),sl15⟩)(c15:codeIn K cd15 "is_stroke"=true)(k15:keepIn K (.ref f15)=true)
  (a16:nsIn K mainGlobals "lines_of"=some (some (.ref f16)))(l16:K.lookup f16=some ⟨oc16,od16,.func (fnOf "lines_of" "lines_of" (bz (top 26)) (bw (top 26)) (aG (top 26)) .none kV16 dc16 pm16 an16 cd16 ct16),sl16⟩)(c16:codeIn K cd16 "lines_of"=true)(k16:keepIn K (.ref f16)=true)
  (a17:nsIn K mainGlobals "length_of"=some (some (.ref f17)))(l17:K.lookup f17=some ⟨oc17,od17,.func (fnOf "length_of" "length_of" (bz (top 27)) (bw (top 27)) (aG (top 27)) .none kV17 dc17 pm17 an17 cd17 ct17),sl17⟩)(c17:codeIn K cd17 "length_of"=true)(k17:keepIn K (.ref f17)=true)
  (a18:nsIn K mainGlobals "lies_on"=some (some (.ref f18)))(l18:K.lookup f18=some ⟨oc18,od18,.func (fnOf "lies_on" "lies_on" (bz (top 28)) (bw (top 28)) (aG (top 28)) .none kV18 dc18 pm18 an18 cd18 ct18),sl18⟩)(c18:codeIn K cd18 "lies_on"=true)(k18:keepIn K (.ref f18)=true)
  (a19:nsIn K mainGlobals "stroke_cells"=some (some (.ref f19)))(l19:K.lookup f19=some ⟨oc19,od19,.func (fnOf "stroke_cells" "stroke_cells" (bz (top 29)) (bw (top 29)) (aG (top 29)) .none kV19 dc19 pm19 an19 cd19 ct19),sl19⟩)(c19:codeIn K cd19 "stroke_cells"=true)(k19:keepIn K (.ref f19)=true)
  (a20:nsIn K mainGlobals "cells_cut"=some (some (.ref f20)))(l20:K.lookup f20=some ⟨oc20,od20,.func (fnOf "cells_cut" "cells_cut" (bz (top 30)) (bw (top 30)) (aG (top 30)) .none kV20 dc20 pm20 an20 cd20 ct20),sl20⟩)(c20:codeIn K cd20 "cells_cut"=true)(k20:keepIn K (.ref f20)=true)
  (a21:nsIn K mainGlobals "longest_strokes"=some (some (.ref f21)))(l21:K.lookup f21=some ⟨oc21,od21,.func (fnOf "longest_strokes" "longest_strokes" (bz (top 31)) (bw (top 31)) (aG (top 31)) .none kV21 dc21 pm21 an21 cd21 ct21),sl21⟩)(c21:codeIn K cd21 "longest_strokes"=true)(k21:keepIn K (.ref f21)=true)
  (a22:nsIn K mainGlobals "longest_by_cell"=some (some (.ref f22)))(l22:K.lookup f22=some ⟨oc22,od22,.func (fnOf "longest_by_cell" "longest_by_cell" (bz (top 32)) (bw (top 32)) (aG (top 32)) .none kV22 dc22 pm22 an22 cd22 ct22),sl22⟩)(c22:codeIn K cd22 "longest_by_cell"=true)(k22:keepIn K (.ref f22)=true)
  (a23:nsIn K mainGlobals "crossings"=some (some (.ref f23)))(l23:K.lookup f23=some ⟨oc23,od23,.func (fnOf "crossings" "crossings" (bz (top 33)) (bw (top 33)) (aG (top 33)) .none kV23 dc23 pm23 an23 cd23 ct23),sl23⟩)(c23:codeIn K cd23 "crossings"=true)(k23:keepIn K (.ref f23)=true)
  (a24:nsIn K mainGlobals "fewest_strokes"=some (some (.ref f24)))(l24:K.lookup f24=some ⟨oc24,od24,.func (fnOf "fewest_strokes" "fewest_strokes" (bz (top 34)) (bw (top 34)) (aG (top 34)) .none kV24 dc24 pm24 an24 cd24 ct24),sl24⟩)(c24:codeIn K cd24 "fewest_strokes"=true)(k24:keepIn K (.ref f24)=true)
  (a25:nsIn K mainGlobals "is_number"=some (some (.ref f25)))(l25:K.lookup f25=some ⟨oc25,od25,.func (fnOf "is_number" "is_number" (bz (top 38)) (bw (top 38)) (aG (top 38)) .none kV25 dc25 pm25 an25 cd25 ct25),sl25⟩)(c25:codeIn K cd25 "is_number"=true)(k25:keepIn K (.ref f25)=true)
  (a26:nsIn K mainGlobals "is_deed"=some (some (.ref f26)))(l26:K.lookup f26=some ⟨oc26,od26,.func (fnOf "is_deed" "is_deed" (bz (top 39)) (bw (top 39)) (aG (top 39)) .none kV26 dc26 pm26 an26 cd26 ct26),sl26⟩)(c26:codeIn K cd26 "is_deed"=true)(k26:keepIn K (.ref f26)=true)
  (a27:nsIn K mainGlobals "can_follow"=some (some (.ref f27)))(l27:K.lookup f27=some ⟨oc27,od27,.func (fnOf "can_follow" "can_follow" (bz (top 40)) (bw (top 40)) (aG (top 40)) .none kV27 dc27 pm27 an27 cd27 ct27),sl27⟩)(c27:codeIn K cd27 "can_follow"=true)(k27:keepIn K (.ref f27)=true)
  (a28:nsIn K mainGlobals "replayed_with"=some (some (.ref f28)))(l28:K.lookup f28=some ⟨oc28,od28,.func (fnOf "replayed_with" "replayed_with" (bz (top 41)) (bw (top 41)) (aG (top 41)) .none kV28 dc28 pm28 an28 cd28 ct28),sl28⟩)(c28:codeIn K cd28 "replayed_with"=true)(k28:keepIn K (.ref f28)=true)
  (a29:nsIn K mainGlobals "replayed"=some (some (.ref f29)))(l29:K.lookup f29=some ⟨oc29,od29,.func (fnOf "replayed" "replayed" (bz (top 42)) (bw (top 42)) (aG (top 42)) .none kV29 dc29 pm29 an29 cd29 ct29),sl29⟩)(c29:codeIn K cd29 "replayed"=true)(k29:keepIn K (.ref f29)=true)
  (a30:nsIn K mainGlobals "blocks_by_state"=some (some (.ref f30)))(l30:K.lookup f30=some ⟨oc30,od30,.func (fnOf "blocks_by_state" "blocks_by_state" (bz (top 43)) (bw (top 43)) (aG (top 43)) .none kV30 dc30 pm30 an30 cd30 ct30),sl30⟩)(c30:codeIn K cd30 "blocks_by_state"=true)(k30:keepIn K (.ref f30)=true)
  (a31:nsIn K mainGlobals "plan_of"=some (some (.ref f31)))(l31:K.lookup f31=some ⟨oc31,od31,.func (fnOf "plan_of" "plan_of" (bz (top 44)) (bw (top 44)) (aG (top 44)) .none kV31 dc31 pm31 an31 cd31 ct31),sl31⟩)(c31:codeIn K cd31 "plan_of"=true)(k31:keepIn K (.ref f31)=true)
  (a32:nsIn K mainGlobals "_law_cell"=some (some (.ref f32)))(l32:K.lookup f32=some ⟨oc32,od32,.func (fnOf "_law_cell" "_law_cell" (bz (top 46)) (bw (top 46)) (aG (top 46)) .none kV32 dc32 pm32 an32 cd32 ct32),sl32⟩)(c32:codeIn K cd32 "_law_cell"=true)(k32:keepIn K (.ref f32)=true)
  (a33:nsIn K mainGlobals "_law_mixed"=some (some (.ref f33)))(l33:K.lookup f33=some ⟨oc33,od33,.func (fnOf "_law_mixed" "_law_mixed" (bz (top 47)) (bw (top 47)) (aG (top 47)) .none kV33 dc33 pm33 an33 cd33 ct33),sl33⟩)(c33:codeIn K cd33 "_law_mixed"=true)(k33:keepIn K (.ref f33)=true)
  (a34:nsIn K mainGlobals "_law_size"=some (some (.ref f34)))(l34:K.lookup f34=some ⟨oc34,od34,.func (fnOf "_law_size" "_law_size" (bz (top 48)) (bw (top 48)) (aG (top 48)) .none kV34 dc34 pm34 an34 cd34 ct34),sl34⟩)(c34:codeIn K cd34 "_law_size"=true)(k34:keepIn K (.ref f34)=true)
  (a35:nsIn K mainGlobals "_law_set"=some (some (.ref f35)))(l35:K.lookup f35=some ⟨oc35,od35,.func (fnOf "_law_set" "_law_set" (bz (top 49)) (bw (top 49)) (aG (top 49)) .none kV35 dc35 pm35 an35 cd35 ct35),sl35⟩)(c35:codeIn K cd35 "_law_set"=true)(k35:keepIn K (.ref f35)=true)
  (a36:nsIn K mainGlobals "_law_states"=some (some (.ref f36)))(l36:K.lookup f36=some ⟨oc36,od36,.func (fnOf "_law_states" "_law_states" (bz (top 50)) (bw (top 50)) (aG (top 50)) .none kV36 dc36 pm36 an36 cd36 ct36),sl36⟩)(c36:codeIn K cd36 "_law_states"=true)(k36:keepIn K (.ref f36)=true)
  (a37:nsIn K mainGlobals "law"=some (some (.ref f37)))(l37:K.lookup f37=some ⟨oc37,od37,.func (fnOf "law" "law" (bz (top 51)) (bw (top 51)) (aG (top 51)) .none kV37 dc37 pm37 an37 cd37 ct37),sl37⟩)(c37:codeIn K cd37 "law"=true)(k37:keepIn K (.ref f37)=true)
  (VF:nsIn K mainGlobals "all"=some none)(N8:nsIn K mainGlobals "bool"=some none)(Oa:nsIn K mainGlobals "dict"=some none)(sV:nsIn K mainGlobals "enumerate"=some none)(VG:nsIn K mainGlobals "int"=some none)(qJ:nsIn K mainGlobals "isinstance"=some none)(VH:nsIn K mainGlobals "len"=some none)(Ob:nsIn K mainGlobals "list"=some none)(Jc:nsIn K mainGlobals "range"=some none)(Eh:nsIn K mainGlobals "sorted"=some none)(VJ:nsIn K mainGlobals "str"=some none)(Jd:nsIn K mainGlobals "tuple"=some none)(VL:nsIn K mainGlobals "zip"=some none)(Ei:nsIn K mainGlobals "COLUMN"=some (some (.str "column" t_COLUMN)))(VM:nsIn K mainGlobals "CUT"=some (some (.str "cut" t_CUT)))(Je:nsIn K mainGlobals "PRINT"=some (some (.str "print" t_PRINT)))(VN:nsIn K mainGlobals "ROW"=some (some (.str "row" t_ROW))) :
  ∃ fd:FuncData,(∀ (s:Shared) (v:Value),BindsTo s fd ⟨[v],[]⟩ [("_law_script",v)])/\∀ base:Heap,K.In base->base.Ns mainGlobals mg->Ek l.prog w K mg base CX0 8 fa fd ["_law_script"] (spM K XR0 Gm):=by
 have e:=hfa.symm.trans (Zaz X G a37);cases e;have T:Txt mg:=⟨trivial,ZaY X G VF,ZaY X G N8,ZaY X G Oa,ZaY X G sV,ZaY X G VG,ZaY X G qJ,ZaY X G VH,ZaY X G Ob,ZaY X G Jc,ZaY X G Eh,ZaY X G VJ,ZaY X G Jd,ZaY X G VL,⟨_,Zaz X G Ei⟩,⟨_,Zaz X G VM⟩,⟨_,Zaz X G Je⟩,⟨_,Zaz X G VN⟩⟩;have F0:=bY (st:=top 5) l0 c0 k0;have D0:bh K mg "is_whole" (top 5) ["thing"]:=⟨⟨_,_,Zaz X G a0,F0,F0.binds λ_ _ _ _ _ _ us hl=>by obtain⟨_,rfl⟩:=Dc hl;rfl⟩⟩
 have F1:=bY (st:=top 6) l1 c1 k1;have D1:bh K mg "place_of" (top 6) ["size","cell"]:=⟨⟨_,_,Zaz X G a1,F1,F1.binds λ_ _ _ _ _ _ us hl=>by obtain⟨_,_,rfl⟩:=rN hl;rfl⟩⟩
 have F2:=bY (st:=top 7) l2 c2 k2;have D2:bh K mg "has_cell" (top 7) ["size","some","cell"]:=⟨⟨_,_,Zaz X G a2,F2,F2.binds λ_ _ _ _ _ _ us hl=>by obtain⟨_,_,_,rfl⟩:=Er hl;rfl⟩⟩
 have F3:=bY (st:=top 8) l3 c3 k3;have D3:bh K mg "all_cells" (top 8) ["size"]:=⟨⟨_,_,Zaz X G a3,F3,F3.binds λ_ _ _ _ _ _ us hl=>by obtain⟨_,rfl⟩:=Dc hl;rfl⟩⟩
 have F4:=bY (st:=top 9) l4 c4 k4;have D4:bh K mg "all_of" (top 9) ["size"]:=⟨⟨_,_,Zaz X G a4,F4,F4.binds λ_ _ _ _ _ _ us hl=>by obtain⟨_,rfl⟩:=Dc hl;rfl⟩⟩
 have F5:=bY (st:=top 10) l5 c5 k5;have D5:bh K mg "set_of" (top 10) ["size","cells"]:=⟨⟨_,_,Zaz X G a5,F5,F5.binds λ_ _ _ _ _ _ us hl=>by obtain⟨_,_,rfl⟩:=rN hl;rfl⟩⟩
 have F6:=bY (st:=top 11) l6 c6 k6;have D6:bh K mg "cells_of" (top 11) ["size","some"]:=⟨⟨_,_,Zaz X G a6,F6,F6.binds λ_ _ _ _ _ _ us hl=>by obtain⟨_,_,rfl⟩:=rN hl;rfl⟩⟩
 have F7:=bY (st:=top 12) l7 c7 k7;have D7:bh K mg "within" (top 12) ["one","other"]:=⟨⟨_,_,Zaz X G a7,F7,F7.binds λ_ _ _ _ _ _ us hl=>by obtain⟨_,_,rfl⟩:=rN hl;rfl⟩⟩
 have F8:=bY (st:=top 14) l8 c8 k8;have D8:bh K mg "walked" (top 14) ["wishes","asker_of","starts"]:=⟨⟨_,_,Zaz X G a8,F8,F8.binds λ_ _ _ _ _ _ us hl=>by obtain⟨_,_,_,rfl⟩:=Er hl;rfl⟩⟩
 have F9:=bY (st:=top 15) l9 c9 k9;have D9:bh K mg "pair_anew" (top 15) ["giver_of","asker_of","came_by","free"]:=⟨⟨_,_,Zaz X G a9,F9,F9.binds λ_ _ _ _ _ _ us hl=>by obtain⟨_,_,_,_,rfl⟩:=aaw hl;rfl⟩⟩
 have F10:=bY (st:=top 16) l10 c10 k10;have D10:bh K mg "most_pairs" (top 16) ["wishes"]:=⟨⟨_,_,Zaz X G a10,F10,F10.binds λ_ _ _ _ _ _ us hl=>by obtain⟨_,rfl⟩:=Dc hl;rfl⟩⟩
 have F11:=bY (st:=top 17) l11 c11 k11;have D11:bh K mg "short_of_givers" (top 17) ["wishes","giver_of"]:=⟨⟨_,_,Zaz X G a11,F11,F11.binds λ_ _ _ _ _ _ us hl=>by obtain⟨_,_,rfl⟩:=rN hl;rfl⟩⟩
 have F12:=bY (st:=top 19) l12 c12 k12;have D12:bh K mg "states_ahead" (top 19) ["states","number"]:=⟨⟨_,_,Zaz X G a12,F12,F12.binds λ_ _ _ _ _ _ us hl=>by obtain⟨_,_,rfl⟩:=rN hl;rfl⟩⟩
 have F13:=bY (st:=top 20) l13 c13 k13;have D13:bh K mg "chains_by" (top 20) ["many","ahead_of"]:=⟨⟨_,_,Zaz X G a13,F13,F13.binds λ_ _ _ _ _ _ us hl=>by obtain⟨_,_,rfl⟩:=rN hl;rfl⟩⟩
 have F14:=bY (st:=top 21) l14 c14 k14;have D14:bh K mg "fewest_blocks" (top 21) ["states"]:=⟨⟨_,_,Zaz X G a14,F14,F14.binds λ_ _ _ _ _ _ us hl=>by obtain⟨_,rfl⟩:=Dc hl;rfl⟩⟩
 have F15:=bY (st:=top 25) l15 c15 k15;have D15:bh K mg "is_stroke" (top 25) ["thing"]:=⟨⟨_,_,Zaz X G a15,F15,F15.binds λ_ _ _ _ _ _ us hl=>by obtain⟨_,rfl⟩:=Dc hl;rfl⟩⟩
 have F16:=bY (st:=top 26) l16 c16 k16;have D16:bh K mg "lines_of" (top 26) ["size","kind"]:=⟨⟨_,_,Zaz X G a16,F16,F16.binds λ_ _ _ _ _ _ us hl=>by obtain⟨_,_,rfl⟩:=rN hl;rfl⟩⟩
 have F17:=bY (st:=top 27) l17 c17 k17;have D17:bh K mg "length_of" (top 27) ["size","kind"]:=⟨⟨_,_,Zaz X G a17,F17,F17.binds λ_ _ _ _ _ _ us hl=>by obtain⟨_,_,rfl⟩:=rN hl;rfl⟩⟩
 have F18:=bY (st:=top 28) l18 c18 k18;have D18:bh K mg "lies_on" (top 28) ["size","thing"]:=⟨⟨_,_,Zaz X G a18,F18,F18.binds λ_ _ _ _ _ _ us hl=>by obtain⟨_,_,rfl⟩:=rN hl;rfl⟩⟩
 have F19:=bY (st:=top 29) l19 c19 k19;have D19:bh K mg "stroke_cells" (top 29) ["stroke"]:=⟨⟨_,_,Zaz X G a19,F19,F19.binds λ_ _ _ _ _ _ us hl=>by obtain⟨_,rfl⟩:=Dc hl;rfl⟩⟩
 have F20:=bY (st:=top 30) l20 c20 k20;have D20:bh K mg "cells_cut" (top 30) ["size","stroke"]:=⟨⟨_,_,Zaz X G a20,F20,F20.binds λ_ _ _ _ _ _ us hl=>by obtain⟨_,_,rfl⟩:=rN hl;rfl⟩⟩
 have F21:=bY (st:=top 31) l21 c21 k21;have D21:bh K mg "longest_strokes" (top 31) ["size","keep","kind","line"]:=⟨⟨_,_,Zaz X G a21,F21,F21.binds λ_ _ _ _ _ _ us hl=>by obtain⟨_,_,_,_,rfl⟩:=aaw hl;rfl⟩⟩
 have F22:=bY (st:=top 32) l22 c22 k22;have D22:bh K mg "longest_by_cell" (top 32) ["size","keep","kind"]:=⟨⟨_,_,Zaz X G a22,F22,F22.binds λ_ _ _ _ _ _ us hl=>by obtain⟨_,_,_,rfl⟩:=Er hl;rfl⟩⟩
 have F23:=bY (st:=top 33) l23 c23 k23;have D23:bh K mg "crossings" (top 33) ["size","away","keep"]:=⟨⟨_,_,Zaz X G a23,F23,F23.binds λ_ _ _ _ _ _ us hl=>by obtain⟨_,_,_,rfl⟩:=Er hl;rfl⟩⟩
 have F24:=bY (st:=top 34) l24 c24 k24;have D24:bh K mg "fewest_strokes" (top 34) ["size","away","keep"]:=⟨⟨_,_,Zaz X G a24,F24,F24.binds λ_ _ _ _ _ _ us hl=>by obtain⟨_,_,_,rfl⟩:=Er hl;rfl⟩⟩
 have F25:=bY (st:=top 38) l25 c25 k25;have D25:bh K mg "is_number" (top 38) ["thing"]:=⟨⟨_,_,Zaz X G a25,F25,F25.binds λ_ _ _ _ _ _ us hl=>by obtain⟨_,rfl⟩:=Dc hl;rfl⟩⟩
 have F26:=bY (st:=top 39) l26 c26 k26;have D26:bh K mg "is_deed" (top 39) ["size","thing"]:=⟨⟨_,_,Zaz X G a26,F26,F26.binds λ_ _ _ _ _ _ us hl=>by obtain⟨_,_,rfl⟩:=rN hl;rfl⟩⟩
 have F27:=bY (st:=top 40) l27 c27 k27;have D27:bh K mg "can_follow" (top 40) ["prints","ink","many_inks"]:=⟨⟨_,_,Zaz X G a27,F27,F27.binds λ_ _ _ _ _ _ us hl=>by obtain⟨_,_,_,rfl⟩:=Er hl;rfl⟩⟩
 have F28:=bY (st:=top 41) l28 c28 k28;have D28:bh K mg "replayed_with" (top 41) ["size","plan","many_inks"]:=⟨⟨_,_,Zaz X G a28,F28,F28.binds λ_ _ _ _ _ _ us hl=>by obtain⟨_,_,_,rfl⟩:=Er hl;rfl⟩⟩
 have F29:=bY (st:=top 42) l29 c29 k29;have D29:bh K mg "replayed" (top 42) ["size","plan"]:=⟨⟨_,_,Zaz X G a29,F29,F29.binds λ_ _ _ _ _ _ us hl=>by obtain⟨_,_,rfl⟩:=rN hl;rfl⟩⟩
 have F30:=bY (st:=top 43) l30 c30 k30;have D30:bh K mg "blocks_by_state" (top 43) ["states"]:=⟨⟨_,_,Zaz X G a30,F30,F30.binds λ_ _ _ _ _ _ us hl=>by obtain⟨_,rfl⟩:=Dc hl;rfl⟩⟩
 have F31:=bY (st:=top 44) l31 c31 k31;have D31:bh K mg "plan_of" (top 44) ["size","states"]:=⟨⟨_,_,Zaz X G a31,F31,F31.binds λ_ _ _ _ _ _ us hl=>by obtain⟨_,_,rfl⟩:=rN hl;rfl⟩⟩
 have F32:=bY (st:=top 46) l32 c32 k32;have D32:bh K mg "_law_cell" (top 46) ["_law_script","_law_k"]:=⟨⟨_,_,Zaz X G a32,F32,F32.binds λ_ _ _ _ _ _ us hl=>by obtain⟨_,_,rfl⟩:=rN hl;rfl⟩⟩
 have F33:=bY (st:=top 47) l33 c33 k33;have D33:bh K mg "_law_mixed" (top 47) ["_law_cell_here","_law_k"]:=⟨⟨_,_,Zaz X G a33,F33,F33.binds λ_ _ _ _ _ _ us hl=>by obtain⟨_,_,rfl⟩:=rN hl;rfl⟩⟩
 have F34:=bY (st:=top 48) l34 c34 k34;have D34:bh K mg "_law_size" (top 48) ["_law_cell_here"]:=⟨⟨_,_,Zaz X G a34,F34,F34.binds λ_ _ _ _ _ _ us hl=>by obtain⟨_,rfl⟩:=Dc hl;rfl⟩⟩
 have F35:=bY (st:=top 49) l35 c35 k35;have D35:bh K mg "_law_set" (top 49) ["_law_size_here","_law_cell_here","_law_k"]:=⟨⟨_,_,Zaz X G a35,F35,F35.binds λ_ _ _ _ _ _ us hl=>by obtain⟨_,_,_,rfl⟩:=Er hl;rfl⟩⟩
 have F36:=bY (st:=top 50) l36 c36 k36;have D36:bh K mg "_law_states" (top 50) ["_law_script","_law_size_here","_law_many"]:=⟨⟨_,_,Zaz X G a36,F36,F36.binds λ_ _ _ _ _ _ us hl=>by obtain⟨_,_,_,rfl⟩:=Er hl;rfl⟩⟩
 have F37:=bY (st:=top 51) l37 c37 k37;refine⟨fnOf "law" "law" (bz (top 51)) (bw (top 51)) (aG (top 51)) .none kV37 dc37 pm37 an37 cd37 ct37,λs v=>.of_eq rfl,λbase _ _=>?_⟩;have G0:=La (P:=l.prog) (w:=w) (base:=base) T D0;have G1:=Ld (P:=l.prog) (w:=w) (base:=base) T D1;have G2:=Lf (P:=l.prog) (w:=w) (base:=base) T D2 G1;have G3:=Il (P:=l.prog) (w:=w) (base:=base) T D3;have G4:=RL (P:=l.prog) (w:=w) (base:=base) T D4;have G5:=RM (P:=l.prog) (w:=w) (base:=base) T D5 G1;have G6:=Lh (P:=l.prog) (w:=w) (base:=base) T D6 G3 G2;have G7:=RP (P:=l.prog) (w:=w) (base:=base) T D7;have G8:=RQ (P:=l.prog) (w:=w) (base:=base) T D8;have G9:=Im (P:=l.prog) (w:=w) (base:=base) T D9;have G10:=Ex (P:=l.prog) (w:=w) (base:=base) T D10 G8 G9;have G11:=vN (P:=l.prog) (w:=w) (base:=base) T D11 G8;have G12:=Li (P:=l.prog) (w:=w) (base:=base) T D8;have G13:=Ea (P:=l.prog) (w:=w) (base:=base) T D9;have G14:=z6 (P:=l.prog) (w:=w) (base:=base) T D10 G12 G13;have G15:=sO (P:=l.prog) (w:=w) (base:=base) T D11 G12;have G16:=z8 (P:=l.prog) (w:=w) (base:=base) T D12 G7;have G17:=Io (P:=l.prog) (w:=w) (base:=base) T D13;have G18:=yZ (P:=l.prog) (w:=w) (base:=base) T D14 G16 G14 G15 G17;have G19:=Ir (P:=l.prog) (w:=w) (base:=base) T D15 G0;have G20:=Lk (P:=l.prog) (w:=w) (base:=base) T D16;have G21:=Iv (P:=l.prog) (w:=w) (base:=base) T D17;have G22:=NK (P:=l.prog) (w:=w) (base:=base) T D18 G19 G20 G21;have G23:=Aa (P:=l.prog) (w:=w) (base:=base) T D19;have G24:=Iz (P:=l.prog) (w:=w) (base:=base) T D20 G5 G23;have G25:=vO (P:=l.prog) (w:=w) (base:=base) T D21 G21 G23 G2;have G26:=vP (P:=l.prog) (w:=w) (base:=base) T D22 G20 G25 G23;have G27:=IK (P:=l.prog) (w:=w) (base:=base) T D23 G26 G6;have G28:=yo (P:=l.prog) (w:=w) (base:=base) T D24 G6 G27 G10 G11 G5;have G29:=IW (P:=l.prog) (w:=w) (base:=base) T D25 G0;have G30:=NQ (P:=l.prog) (w:=w) (base:=base) T D26 G29 G22;have G31:=Ez (P:=l.prog) (w:=w) (base:=base) T D27;have G32:=za (P:=l.prog) (w:=w) (base:=base) T D28 G30 G4 G24 G31;have G33:=Lp (P:=l.prog) (w:=w) (base:=base) T D29 G32;have G34:=vQ (P:=l.prog) (w:=w) (base:=base) T D30 G18;have G35:=NT (P:=l.prog) (w:=w) (base:=base) T D31 G34 G4 G28;have G36:=RT (P:=l.prog) (w:=w) (base:=base) T D32;have G37:=NZ (P:=l.prog) (w:=w) (base:=base) T D33;have G38:=RV (P:=l.prog) (w:=w) (base:=base) T D34 G37;have G39:=Vz (P:=l.prog) (w:=w) (base:=base) T D35 G37;have G40:=Lq (P:=l.prog) (w:=w) (base:=base) T D36 G36 G39 G37;exact ZK (P:=l.prog) (w:=w) (base:=base) T F37 G38 G36 G40 G37 G35 G33 G18
theorem walk{l:PySem.W.OpenLaw}{q:Program}{loose:List Str}{XP:(Str->Option Value)->Heap->Prop}{YP:World->Heap->Prop}{d:DefRec}{K:Params->Frag}(hn:l.most=some 63)(hdf:d.params.defaults=[])
  (hY:∀ (w:World) (h:Heap),YP w h->(K w.params).In h)
  (F:∀ (w:World) (mg:Str->Option Value) (fa:Addr) (h:Heap),(K w.params).In h->h.Ns mainGlobals mg->mg d.name=some (.ref fa) ->
   ∃ fd:FuncData,(∀ (s:Shared) (u:Value),BindsTo s fd ⟨[u],[]⟩ [("_law_script",u)])/\∀ base:Heap,(K w.params).In base->base.Ns mainGlobals mg->Ek l.prog w (K w.params) mg base CX0 8 fa fd ["_law_script"] (spM (K w.params) XR0 Gm))
  (main:∀ ns:List Int,ns.length<=63->Gm [.lst (ns.map PV.int)]=some (.ok (.bl true))) :
  PySem.W.WalkO q loose XP YP l.row.toRowW d [] (λf vs=>PySem.call f vs):=
 L2.Wc (n:=63) (k:=8) (x:="_law_script") (CX:=λ_=>CX0) (sp:=λw=>spM (K w.params) XR0 Gm) hn (by decide) hdf ⟨rfl,by decide,by decide⟩ hY F (λw H a ns hl _ hS=>⟨[.lst (ns.map PV.int)],H,.ok (.bl true),aU.refl _,bR.nil.cons (.lst hS (bR.wI (K:=K w.params) (F:=H) ns).1 (bR.wI ns).2),main ns hl,λv F' H' _ rv=>Rep.iD rv⟩) λ_ _ _ _ _ z=>z
end MM
open PySem PySem.W PyProof.Rows
set_option maxRecDepth 100000 in
set_option maxHeartbeats 0 in
theorem PySem.Challenge.cw_lostblock_k35_whole_plan_prints_states_holds : PySem.Challenge.rw_lostblock_k35_whole_plan_prints_states.Holds := by
 w_on;o_law;o_head (kHook MM.KK [3,71,72,78,79,85,86,90,91,97,98,104,105,109,110,116,117,123,124,130,131,137,138,142,143,147,148,154,155,159,160,164,165,171,172,178,179,185,186,190,191,197,198,202,203,209,210,216,217,221,222,228,229,235,236,242,243,249,250,256,257,263,264,268,269,275,276,282,283,289,290,296,297,303,304,308,309] (λ_=>by kernel_rfl));(case hw=>w_witness2)
 k_fill
 refine MM.walk (l:=PySem.Challenge.rw_lostblock_k35_whole_plan_prints_states) rfl rfl (λw h Y=>PySem.W.kIn_of Y) ?F MM.law_main
 case F=>
  intro w mg fa h KX G hmg;refine' MM.ZL KX G hmg ?a0 ?l0 ?c0 ?k0 ?a1 ?l1 ?c1 ?k1 ?a2 ?l2 ?c2 ?k2 ?a3 ?l3 ?c3 ?k3 ?a4 ?l4 ?c4 ?k4 ?a5 ?l5 ?c5 ?k5 ?a6 ?l6 ?c6 ?k6 ?a7 ?l7 ?c7 ?k7 ?a8 ?l8 ?c8 ?k8 ?a9 ?l9 ?c9 ?k9 ?a10 ?l10 ?c10 ?k10 ?a11 ?l11 ?c11 ?k11 ?a12 ?l12 ?c12 ?k12 ?a13 ?l13 ?c13 ?k13 ?a14 ?l14 ?c14 ?k14 ?a15 ?l15 ?c15 ?k15 ?a16 ?l16 ?c16 ?k16 ?a17 ?l17 ?c17 ?k17 ?a18 ?l18 ?c18 ?k18 ?a19 ?l19 ?c19 ?k19 ?a20 ?l20 ?c20 ?k20 ?a21 ?l21 ?c21 ?k21 ?a22 ?l22 ?c22 ?k22 ?a23 ?l23 ?c23 ?k23 ?a24 ?l24 ?c24 ?k24 ?a25 ?l25 ?c25 ?k25 ?a26 ?l26 ?c26 ?k26 ?a27 ?l27 ?c27 ?k27 ?a28 ?l28 ?c28 ?k28 ?a29 ?l29 ?c29 ?k29 ?a30 ?l30 ?c30 ?k30 ?a31 ?l31 ?c31 ?k31 ?a32 ?l32 ?c32 ?k32 ?a33 ?l33 ?c33 ?k33 ?a34 ?l34 ?c34 ?k34 ?a35 ?l35 ?c35 ?k35 ?a36 ?l36 ?c36 ?k36 ?a37 ?l37 ?c37 ?k37 ?VF ?N8 ?Oa ?sV ?VG ?qJ ?VH ?Ob ?Jc ?Eh ?VJ ?Jd ?VL ?Ei ?VM ?Je ?VN
  (case a0=>k_is)
  (case l0=>k_is)
  (case c0=>k_is)
  (case k0=>k_is)
  (case a1=>k_is)
  (case l1=>k_is)
  (case c1=>k_is)
  (case k1=>k_is)
  (case a2=>k_is)
  (case l2=>k_is)
  (case c2=>k_is)
  (case k2=>k_is)
  (case a3=>k_is)
  (case l3=>k_is)
  (case c3=>k_is)
  (case k3=>k_is)
  (case a4=>k_is)
  (case l4=>k_is)
  (case c4=>k_is)
  (case k4=>k_is)
  (case a5=>k_is)
  (case l5=>k_is)
  (case c5=>k_is)
  (case k5=>k_is)
  (case a6=>k_is)
  (case l6=>k_is)
  (case c6=>k_is)
  (case k6=>k_is)
  (case a7=>k_is)
  (case l7=>k_is)
  (case c7=>k_is)
  (case k7=>k_is)
  (case a8=>k_is)
  (case l8=>k_is)
  (case c8=>k_is)
  (case k8=>k_is)
  (case a9=>k_is)
  (case l9=>k_is)
  (case c9=>k_is)
  (case k9=>k_is)
  (case a10=>k_is)
  (case l10=>k_is)
  (case c10=>k_is)
  (case k10=>k_is)
  (case a11=>k_is)
  (case l11=>k_is)
  (case c11=>k_is)
  (case k11=>k_is)
  (case a12=>k_is)
  (case l12=>k_is)
  (case c12=>k_is)
  (case k12=>k_is)
  (case a13=>k_is)
  (case l13=>k_is)
  (case c13=>k_is)
  (case k13=>k_is)
  (case a14=>k_is)
  (case l14=>k_is)
  (case c14=>k_is)
  (case k14=>k_is)
  (case a15=>k_is)
  (case l15=>k_is)
  (case c15=>k_is)
  (case k15=>k_is)
  (case a16=>k_is)
  (case l16=>k_is)
  (case c16=>k_is)
  (case k16=>k_is)
  (case a17=>k_is)
  (case l17=>k_is)
  (case c17=>k_is)
  (case k17=>k_is)
  (case a18=>k_is)
  (case l18=>k_is)
  (case c18=>k_is)
  (case k18=>k_is)
  (case a19=>k_is)
  (case l19=>k_is)
  (case c19=>k_is)
  (case k19=>k_is)
  (case a20=>k_is)
  (case l20=>k_is)
  (case c20=>k_is)
  (case k20=>k_is)
  (case a21=>k_is)
  (case l21=>k_is)
  (case c21=>k_is)
  (case k21=>k_is)
  (case a22=>k_is)
  (case l22=>k_is)
  (case c22=>k_is)
  (case k22=>k_is)
  (case a23=>k_is)
  (case l23=>k_is)
  (case c23=>k_is)
  (case k23=>k_is)
  (case a24=>k_is)
  (case l24=>k_is)
  (case c24=>k_is)
  (case k24=>k_is)
  (case a25=>k_is)
  (case l25=>k_is)
  (case c25=>k_is)
  (case k25=>k_is)
  (case a26=>k_is)
  (case l26=>k_is)
  (case c26=>k_is)
  (case k26=>k_is)
  (case a27=>k_is)
  (case l27=>k_is)
  (case c27=>k_is)
  (case k27=>k_is)
  (case a28=>k_is)
  (case l28=>k_is)
  (case c28=>k_is)
  (case k28=>k_is)
  (case a29=>k_is)
  (case l29=>k_is)
  (case c29=>k_is)
  (case k29=>k_is)
  (case a30=>k_is)
  (case l30=>k_is)
  (case c30=>k_is)
  (case k30=>k_is)
  (case a31=>k_is)
  (case l31=>k_is)
  (case c31=>k_is)
  (case k31=>k_is)
  (case a32=>k_is)
  (case l32=>k_is)
  (case c32=>k_is)
  (case k32=>k_is)
  (case a33=>k_is)
  (case l33=>k_is)
  (case c33=>k_is)
  (case k33=>k_is)
  (case a34=>k_is)
  (case l34=>k_is)
  (case c34=>k_is)
  (case k34=>k_is)
  (case a35=>k_is)
  (case l35=>k_is)
  (case c35=>k_is)
  (case k35=>k_is)
  (case a36=>k_is)
  (case l36=>k_is)
  (case c36=>k_is)
  (case k36=>k_is)
  (case a37=>k_is)
  (case l37=>k_is)
  (case c37=>k_is)
  (case k37=>k_is)
  (case VF=>k_is)
  (case N8=>k_is)
  (case Oa=>k_is)
  (case sV=>k_is)
  (case VG=>k_is)
  (case qJ=>k_is)
  (case VH=>k_is)
  (case Ob=>k_is)
  (case Jc=>k_is)
  (case Eh=>k_is)
  (case VJ=>k_is)
  (case Jd=>k_is)
  (case VL=>k_is)
  (case Ei=>k_is)
  (case VM=>k_is)
  (case Je=>k_is)
  (case VN=>k_is)
#print axioms PySem.Challenge.cw_lostblock_k35_whole_plan_prints_states_holds
