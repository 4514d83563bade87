import PyProof.Rows.All
import Wide.All
import OpenK.AllK
import Wide.FinOn
import Lean
import PyProof.EqAt
import PyProof.EqKinds
import PyProof.TupleCall
import PySem.Challenge.RW_lostblock_k36_whole_plan_by_fewest_strok
set_option Elab.async false
set_option linter.all false
set_option maxRecDepth 100000
def PySem.W.Fast.tw9601663734381125679:=()
def PySem.W.Fast.tw8988247240742056126:=()
def PySem.W.Fast.tw17569287213198232118:=()
def PySem.W.Fast.tw14287425681543137738:=()
def PySem.W.Fast.tw16130853102643141700:=()
def PySem.W.Fast.tw14621057474730227895:=()
def PySem.W.Fast.tw3180421894651597961:=()
def PySem.W.Fast.tw6648207068125888022:=()
def PySem.W.Fast.tw16442232897129340678:=()
def PySem.W.Fast.tw17368063734833073504:=()
def PySem.W.Fast.tw10748679971681581367:=()
def PySem.W.Fast.tw8460198916590667855:=()
def PySem.W.Fast.tw9815762209359973197:=()
def PySem.W.Fast.tw336666334050879581:=()
def PySem.W.Fast.tw1089644060057791048:=()
def PySem.W.Fast.tw2166245933910103444:=()
def PySem.W.Fast.tw12711341203526227298:=()
def PySem.W.Fast.tw12721514963675632393:=()
def PySem.W.Fast.tw11437716453919090665:=()
def PySem.W.Fast.tw5234980900557178090:=()
def PySem.W.Fast.tw6314404941451616933:=()
def PySem.W.Fast.tw2738667388577276606:=()
def PySem.W.Fast.tw11187810024221847511:=()
def PySem.W.Fast.tw1407946984692138099:=()
def PySem.W.Fast.tw14990944685760068760:=()
def PySem.W.Fast.tw4319615647593634079:=()
def PySem.W.Fast.tw10198402841805975767:=()
def PySem.W.Fast.tw15475958197840185896:=()
def PySem.W.Fast.tw10952971634374822805:=()
def PySem.W.Fast.tw12914438884762520157:=()
def PySem.W.Fast.tw10997581605644676226:=()
def PySem.W.Fast.tw15884050760066977006:=()
def PySem.W.Fast.tw5388197577620270676:=()
def PySem.W.Fast.tw8437870241231444742:=()
def PySem.W.Fast.tw3393748266568712198:=()
def PySem.W.Fast.tw6873330155318928335:=()
def PySem.W.Fast.tw16434885741198089503:=()
def PySem.W.Fast.tw4416446380018588639:=()
def PySem.W.Fast.tw15163079055276467176:=()
def PySem.W.Fast.tw12174996041771450491:=()
def PySem.W.Fast.tw7606798988143535776:=()
def PySem.W.Fast.tw5751526030561547526:=()
def PySem.W.Fast.tw15764330249541085102:=()
def PySem.W.Fast.tw17570193934739626894:=()
def PySem.W.Fast.tw17278509704216082405:=()
def PySem.W.Fast.tw17093678115435716253:=()
def PySem.W.Fast.tw16107907288503371745:=()
def PySem.W.Fast.tw13621951174419324297:=()
def PySem.W.Fast.tw12179003976446408931:=()
def PySem.W.Fast.tw5608465588047079944:=()
def PySem.W.Fast.tw7231041676434384079:=()
def PySem.W.Fast.tw2104212700242797220:=()
def PySem.W.Fast.tw13355445615579366428:=()
def PySem.W.Fast.tw8328358589792547338:=()
def PySem.W.Fast.tw8316256942956450818:=()
def PySem.W.Fast.tw2967891081364461999:=()
def PySem.W.Fast.tw5531850180689535013:=()
def PySem.W.Fast.tw16167305503824970186:=()
def PySem.W.Fast.tw15567240980311607148:=()
def PySem.W.Fast.tw11644249755959616048:=()
def PySem.W.Fast.tw8588817596836354132:=()
def PySem.W.Fast.tw14750782997873872079:=()
def PySem.W.Fast.tw6247870219247339501:=()
def PySem.W.Fast.tw1340003136209281561:=()
local macro_rules|`(tactic|walk_at "s")=>`(tactic|exact⟨rfl,rfl,rfl,by decide +kernel,rfl,by decide +kernel,by decide +kernel⟩)
local macro_rules|`(command| def $d:declId $s:optDeclSig $v:declVal)=>`(command| noncomputable def $d:declId $s:optDeclSig $v:declVal)
open PySem.W (Frag keepIn fnOf codeIn nsIn)
def Zaa:=@PySem.wpAny_bind
def Zab:=@List.length_map
def Zac:=@List.getElem?_map
def Zad:=@List.getElem?_eq_some_iff
def Zae:=@List.getElem?_eq_getElem
def Zaf:=@Option.some.inj
def Zag:=@List.getElem?_append_left
def Zah:=@PySem.wpAny_pure
def Zai:=@List.mem_map
def Zaj:=@PySem.Heap.get?_push_of_some
def Zak:=@List.mem_of_getElem?
def Zal:=@if_neg
def Zam:=@if_pos
def Zan:=@Nat.le_refl
def Zao:=@List.getD_eq_getElem?_getD
def Zap:=@List.getElem?_append_right
def Zaq:=@List.map_cons
def Zar:=@PySem.Heap.get?_push_size
def Zas:=@List.length_append
def Zat:=@List.mem_cons_of_mem
def Zau:=@PySem.Heap.lt_size
def Zav:=@List.mem_filter
def Zaw:=@List.getElem?_set_ne
def Zax:=@List.mem_cons_self
def Zay:=@List.mem_range
def Zaz:=@PySem.W.mg_of
def ZaA:=@Nat.le_of_lt
def ZaB:=@List.length_range
def ZaC:=@List.mem_cons
def ZaD:=@Int.toNat_natCast
def ZaE:=@Nat.ne_of_lt
def ZaF:=@decide_eq_true
def ZaG:=@Nat.lt_of_lt_of_le
def ZaH:=@decide_eq_false
def ZaI:=@Nat.le_trans
def ZaJ:=@List.mem_append_right
def ZaK:=@List.mem_append
def ZaL:=@Array.getElem?_eq_getElem
def ZaM:=@PySem.PassesOwn.never
def ZaN:=@Array.getD_eq_getD_getElem?
def ZaO:=@List.length_filter_le
def ZaP:=@List.length_cons
def ZaQ:=@List.getElem?_eq_none
def ZaR:=@Array.length_toList
def ZaS:=@List.map_map
def ZaT:=@List.all_eq_true
def ZaU:=@Int.emod_lt_of_pos
def ZaV:=@PySem.W.mg_none_of
def ZaW:=@List.map_append
def ZaX:=@Int.eq_ofNat_of_zero_le
def ZaY:=@congrArg
def ZaZ:=@List.getElem?_of_mem
def Za0:=@PySem.wpAny_newObj_type
def Za1:=@Int.natCast_nonneg
def Za2:=@List.mem_singleton
def Za3:=@List.map_congr_left
def Za4:=@Nat.zero_le
def Za5:=@List.filter_sublist
def Za6:=@PySem.F.slot_dict_itemiterator_next
def Za7:=@PySem.F.plainAttrs_list
def Za8:=@List.filter_cons
def Za9:=@Int.emod_nonneg
def Zba:=@PySem.F.slot_dict_keyiterator_next
def Zbb:=@if_false
def Zbc:=@List.append_assoc
def Zbd:=@List.getElem?_set_self
def Zbe:=@Bool.false_ne_true
def Zbf:=@PySem.F.slot_list_append
def Zbg:=@List.getElem?_toArray
def Zbh:=@List.getElem?_range
def Zbi:=@List.nodup_append
def Zbj:=@List.pairwise_map
def Zbk:=@PySem.wpAny_mono
def Zbl:=@Ne.symm
def Zbm:=@List.mem_append_left
def Zbn:=@Nat.lt_of_le_of_lt
def Zbo:=@Option.map_eq_some_iff
def Zbp:=@List.append_nil
def Zbq:=@Array.getElem?_toList
def Zbr:=@PyProof.Rows.callWith_type1
def Zbs:=@List.nodup_cons
def Zbt:=@List.getElem?_replicate
def Zbu:=@Option.map_some
def Zbv:=@Int.toNat_of_nonneg
def Zbw:=@List.filter_eq_self
def Zbx:=@PySem.F.slot_dict_get
def Zby:=@Nat.not_lt_zero
def Zbz:=@List.contains_iff_mem
def ZbA:=@if_true
def ZbB:=@Bool.false_eq_true
def ZbC:=@List.pairwise_cons
def ZbD:=@PySem.F.plainAttrs_dict
def ZbE:=@List.flatten_cons
def ZbF:=@List.getElem?_set
def ZbG:=@List.ext_getElem?
def ZbH:=@List.replicate_succ
def ZbI:=@PySem.W.kia_one
def ZbJ:=@List.cons.injEq
def ZbK:=@PySem.Heap.SameBut.update
def ZbL:=@List.nodup_range
def ZbM:=@PySem.Calls.spliced_cons
def ZbN:=@List.length_replicate
def ZbO:=@Option.isSome_some
def ZbP:=@List.Nodup.sublist
def ZbQ:=@Nat.le_succ
def ZbR:=@List.getElem?_eq_none_iff
def ZbS:=@List.drop_eq_getElem_cons
def ZbT:=@PyProof.Rows.slot_tuple_getitem
def ZbU:=@Nat.lt_irrefl
def ZbV:=@PySem.mem_of_lookup
def ZbW:=@PySem.F.slot_dict_items
def ZbX:=@List.flatten_append
def ZbY:=@List.getElem_mem
def ZbZ:=@PySem.Calls.callWith_builtin
def Zb0:=@PySem.F.entry_dict_get
def Zb1:=@Array.getElem?_eq_none
def Zb2:=@Option.isSome_none
def Zb3:=@Sum.inl.inj
def Zb4:=@Nat.ne_of_gt
def Zb5:=@List.find?_cons
def Zb6:=@Nat.testBit_and
def Zb7:=@List.any_cons
def Zb8:=@List.getElem?_inj
def Zb9:=@PySem.Calls.evalArgs_plain
def Zca:=@List.getElem?_mapIdx
def Zcb:=@PySem.F.args_dict_itemiterator_next_1
def Zcc:=@List.pairwise_append
def Zcd:=@List.mem_erase_of_ne
def Zce:=@PySem.F.slot_tuple_getattribute
def Zcf:=@PySem.Calls.call_function_entry
def Zcg:=@PySem.F.args_dict_keyiterator_next_1
def Zch:=@PySem.F.entry_dict_itemiterator_next
def Zci:=@List.lookup_cons
def Zcj:=@List.not_mem_nil
def Zck:=@PySem.F.entry_dict_keyiterator_next
def Zcl:=@PySem.F.slot_list_getattribute
def Zcm:=@Nat.sub_self
def Zcn:=@List.length_erase_of_mem
def Zco:=@Bool.eq_iff_iff
def Zcp:=@List.length_nil
def Zcq:=@List.getElem?_cons_succ
def Zcr:=@Option.map_none
def Zcs:=@Nat.add_sub_cancel_left
def Zct:=@PySem.Calls.spliced_nil
def Zcu:=@List.map_nil
def Zcv:=@Bool.beq_eq_decide_eq
def Zcw:=@List.Perm.append_left
def Zcx:=@List.length_take
def Zcy:=@Bool.and_eq_true
def Zcz:=@Nat.lt_succ_self
def ZcA:=@Nat.le_add_right
def ZcB:=@List.take_length
def ZcC:=@Nat.eq_of_testBit_eq
def ZcD:=@PySem.Paired.length
def ZcE:=@PySem.F.slot_dict_setdefault
def ZcF:=@PySem.F.slot_dict_items_iter
def ZcG:=@List.countP_eq_length_filter
def ZcH:=@List.filterMap_cons
def ZcI:=@Nat.two_pow_pos
def ZcJ:=@Int.fdiv_eq_ediv_of_nonneg
def ZcK:=@Array.perm_iff_toList_perm
def ZcL:=@Nat.mod_two_eq_zero_or_one
def ZcM:=@List.nodup_nil
def ZcN:=@List.drop_zero
def ZcO:=@PySem.F.args_dict_items_1
def ZcP:=@List.pairwise_iff_getElem
def ZcQ:=@Array.size_map
def ZcR:=@Int.mul_le_mul
def ZcS:=@Nat.lt_succ_of_lt
def ZcT:=@Option.isSome_map
def ZcU:=@Option.some.injEq
def ZcV:=@List.filter_congr
def ZcW:=@Nat.and_assoc
def ZcX:=@List.drop_length
def ZcY:=@List.any_eq_true
def ZcZ:=@Nat.zero_testBit
def Zc0:=@List.mem_flatten
def Zc1:=@List.of_mem_zip
def Zc2:=@List.foldl_cons
def Zc3:=@Nat.lt_or_ge
def Zc4:=@Nat.le_antisymm
def Zc5:=@Prod.ext
def Zc6:=@Bool.and_false
def Zc7:=@Int.mul_nonneg
def Zc8:=@Nat.mul_le_mul
def Zc9:=@Nat.pow_pos
set_option compiler.extract_closed false
set_option bootstrap.genMatcherCode false
set_option genSizeOf false
local macro_rules|`(tactic| omega)=>`(tactic| first|(grind only)|omega (config:={}))
local macro_rules|`(tactic| lia)=>`(tactic| first|lia -verbose|omega (config:={}))
namespace L2
open PySem PySem.Spec PyProof.Rows
noncomputable abbrev Key:=Sum Int Str
def Dg:Key->Value->Bool
 |.inl k,v=>Value.isInt k v
 |.inr x,v=>Value.isStrOf x v
def Zy(w:World):Key->Int
 |.inl k=>hashInt k
 |.inr x=>hashStr w x
theorem dC:∀ {k:Key}{v:Value},Dg k v=true->(∃ i t,k=Sum.inl i/\v=Value.int i t)\/(∃ x t,k=Sum.inr x/\v=Value.str x t)
 |.inl i,v,h=>by
  obtain⟨t,e⟩:=Value.isInt_shape (k:=i) (v:=v) h;exact .inl ⟨i,t,rfl,e⟩
 |.inr x,v,h=>by
  obtain⟨t,e⟩:=Value.isStrOf_shape (x:=x) (v:=v) h;exact .inr ⟨x,t,rfl,e⟩
theorem Om(i:Int)(t:Tok):Dg (.inl i) (.int i t)=true:=by simp[Dg,Value.isInt]
theorem Oo(x:Str)(t:Tok):Dg (.inr x) (.str x t)=true:=by simp[Dg,Value.isStrOf]
theorem WK(a b:Int):decide ((Sum.inl a:Key)=Sum.inl b)=(a==b):=by
 by_cases e:a=b
 ·subst e;simp
 ·have h:¬(Sum.inl a:Key)=Sum.inl b:=λq=>e (Zb3 q);rw[ZaH h];exact(beq_eq_false_iff_ne.mpr e).symm
theorem WL(a b:Str):decide ((Sum.inr a:Key)=Sum.inr b)=decide (a=b):=by
 by_cases e:a=b
 ·subst e;simp
 ·have h:¬(Sum.inr a:Key)=Sum.inr b:=λq=>e (Sum.inr.inj q);rw[ZaH h,ZaH e]
theorem WM(a:Int)(b:Str):decide ((Sum.inl a:Key)=Sum.inr b)=false:=ZaH (λq=>nomatch q)
theorem WP(a:Str)(b:Int):decide ((Sum.inr a:Key)=Sum.inl b)=false:=ZaH (λq=>nomatch q)
def bN(prog:Program)(w:World):PySem.KeyKind prog w Key where
 is:=Dg
 hash:=Zy w
 inj:=λv a b ha hb=>by
  rcases dC ha with⟨i,t,rfl,rfl⟩|⟨x,t,rfl,rfl⟩
  ·rcases dC hb with⟨j,u,rfl,e⟩|⟨y,u,rfl,e⟩
   ·injection e with e1 _;rw[e1]
   ·exact nomatch e
  ·rcases dC hb with⟨j,u,rfl,e⟩|⟨y,u,rfl,e⟩
   ·exact nomatch e
   ·injection e with e1 _;rw[e1]
 byValue:=λk v h=>by
  rcases dC h with⟨i,t,rfl,rfl⟩|⟨x,t,rfl,rfl⟩<;>rfl
 pyHash:=λhv h=>by
  rcases dC hv with⟨i,t,rfl,rfl⟩|⟨x,t,rfl,rfl⟩
  ·exact wpAny_pyHash_int h
  ·exact wpAny_pyHash_str h
 eqBool:=λhu hv h=>by
  rcases dC hu with⟨i,t,rfl,rfl⟩|⟨x,t,rfl,rfl⟩
  ·rcases dC hv with⟨j,u,rfl,rfl⟩|⟨y,u,rfl,rfl⟩
   ·rw[WK] at h;exact wpAny_eqBool_int h
   ·rw[WM] at h;exact SeqAt.EqAt.int_str i t y u _ _ _ _ h
  ·rcases dC hv with⟨j,u,rfl,rfl⟩|⟨y,u,rfl,rfl⟩
   ·rw[WP] at h;exact SeqAt.EqAt.str_int x t j u _ _ _ _ h
   ·rw[WL] at h;exact wpAny_eqBool_str h
 «strs»:=λk x t v h=>by
  rcases dC h with⟨i,u,rfl,e⟩|⟨y,u,rfl,e⟩
  ·exact nomatch e
  ·injection e with e1 _
   subst e1;cases v<;>rfl
theorem Hl(prog:Program)(w:World)(i:Int)(t:Tok):(bN prog w).is (.inl i) (.int i t)=true:=Om i t
theorem Hm(prog:Program)(w:World)(x:Str)(t:Tok):(bN prog w).is (.inr x) (.str x t)=true:=Oo x t
inductive V where
 |non|bl (b:Bool)|int (i:Int)|str (x:Str)|byt (b:Array UInt8)|flt (b:UInt64)|ref (a:Addr)|ty (n:String)
 deriving DecidableEq
def RelV:V->Value->Prop
 |.non,u=>u=Value.none
 |.bl b,u=>u=Value.bool b
 |.int i,u=>∃ t,u=Value.int i t
 |.str x,u=>∃ t,u=Value.str x t
 |.byt b,u=>∃ t,u=Value.bytes b t
 |.flt b,u=>∃ t,u=Value.float b t
 |.ref a,u=>u=Value.ref a
 |.ty n,u=>u=Value.type n
noncomputable abbrev Vals:List V->List Value->Prop:=Paired RelV
theorem Vals.length{xs:List V}{us:List Value}(r:Vals xs us):xs.length=us.length:=ZcD r
theorem Vals.get:∀ {xs:List V}{us:List Value}{i:Nat}{x:V},Vals xs us->xs[i]?=some x->∃ u,us[i]?=some u/\RelV x u
 |_,_,_,_,.nil,e=>by simp at e
 |_,_,0,_,.cons r _,e=>by simp at e;subst e;exact⟨_,rfl,r⟩
 |_,_,i+1,x,.cons _ t,e=>by
  obtain⟨u,h1,h2⟩:=Vals.get (i:=i) (x:=x) t (by simpa using e)
  exact⟨u,by simpa using h1,h2⟩
theorem Vals.set{x:V}{u:Value}(r:RelV x u):∀ {xs:List V}{us:List Value} (i:Nat),Vals xs us->Vals (xs.set i x) (us.set i u)
 |_,_,_,.nil=>.nil
 |_,_,0,.cons _ t=>.cons r t
 |_,_,i+1,.cons q t=>.cons q (Vals.set r i t)
theorem Vals.append:∀ {xs ys:List V}{us ws:List Value},Vals xs us->Vals ys ws->Vals (xs++ys) (us++ws)
 |_,_,_,_,.nil,s=>s
 |_,_,_,_,.cons r t,s=>.cons r (Vals.append t s)
theorem Vals.take:∀ {xs:List V}{us:List Value} (n:Nat),Vals xs us->Vals (xs.take n) (us.take n)
 |_,_,0,_=>.nil
 |_,_,_+1,.nil=>.nil
 |_,_,n+1,.cons r t=>.cons r (Vals.take n t)
theorem Vals.drop:∀ {xs:List V}{us:List Value} (n:Nat),Vals xs us->Vals (xs.drop n) (us.drop n)
 |_,_,0,r=>r
 |_,_,_+1,.nil=>.nil
 |_,_,n+1,.cons _ t=>Vals.drop n t
def yN:Option V->Option Value->Prop
 |some v,some u=>RelV v u
 |none,none=>True
 |_,_=>False
def KV{κ:Type}:List (κ×V)->List (κ×Value)->Prop:=Paired λ(p:κ×V) (q:κ×Value)=>p.1=q.1/\RelV p.2 q.2
def kV:Key->V
 |.inl i=>.int i
 |.inr x=>.str x
inductive HO where
 |lst (xs:List V)
 |tup (xs:List V)
 |dK (kvs:List (Key×V))|dT (kvs:List (List Key×V))
 |set (S:Int->Bool) (n:Nat)
 |ins (C dx:Addr) (fs:List (Str×V))
 |own (x:Addr)
 |xd (fs:List (Str×V))
 |met (f x:Addr)
 |rng (lo hi:Int)
 |frz (o:Obj) (u:HO)
 |tbl (ps:Array Value)
 |ext (φ:Heap->Prop)
noncomputable abbrev Hp:=Addr->Option HO
def upd(H:Hp)(a:Addr)(o:HO):Hp:=λb=>if b=a then some o else H b
theorem aN{H:Hp}{a:Addr}{o:HO}:upd H a o a=some o:=by unfold upd;rw[Zam rfl]
theorem aJ{H:Hp}{a b:Addr}{o:HO}(h:b≠a):upd H a o b=H b:=by unfold upd;rw[Zal h]
theorem Hn{H:Hp}{a b:Addr}{o u:HO}(h:H a=some o)(h':H b=some u)(d:o≠u):a≠b:=by
 intro e;subst e;rw[h] at h';exact d (Zaf h')
theorem bR{H:Hp}{a b:Addr}{o:HO}(h:H a=some o)(h':H b=none):a≠b:=by
 intro e;subst e;rw[h] at h';cases h'
def gb(h:Heap)(a:Addr)(items:Array Value):Prop:=IsTup h a items/\∀ o,h.get? a=some o->o.dict=none
theorem gb.new(h:Heap)(items:Array Value):gb (h.push { cls:=.type "tuple",data:=.seq items }) h.objs.size items:=⟨IsTup.new h items,λo e=>by rw[Zar _ rfl] at e;cases e;rfl⟩
theorem gb.mk{h:Heap}{a:Addr}{items:Array Value}{n:Nat}(e:h.get? a=some { cls:=.type "tuple",data:=.seq items n }):gb h a items:=⟨⟨_,e,rfl,_,rfl⟩,λo q=>by rw[e] at q;cases q;rfl⟩
theorem gb.lt{h:Heap}{a:Addr}{items:Array Value}(x:gb h a items):a<h.objs.size:=x.1.lt
theorem gb.at'{h h':Heap}{a:Addr}{items:Array Value}(x:gb h a items)(e:∀ o,h.get? a=some o->h'.get? a=some o):gb h' a items:=by
 obtain⟨⟨o,h1,r⟩,d⟩:=x;exact⟨⟨o,e o h1,r⟩,λu q=>by rw[e o h1] at q;cases q;exact d o h1⟩
section
variable(P:Program)(w:World)
def dG(H:Hp)(h:Heap)(a:Addr):HO->Prop
 |.lst xs=>xs.length<=sizeLine/\∃ (its:List Value) (n:Nat),Vals xs its/\h.get? a=some { cls:=.type "list",data:=.seq its.toArray n }
 |.tup xs=>xs.length<=sizeLine/\∃ its:List Value,Vals xs its/\gb h a its.toArray
 |.dK kvs=>kvs.length<=sizeLine/\(a==sysModules)=false/\∃ vs,KV kvs vs/\h.DictOf (bN P w) a vs
 |.dT kvs=>kvs.length<=sizeLine/\(a==sysModules)=false/\∃ xs:List (List Key×Addr×Value),
   Paired (λ(p:List Key×V) (q:List Key×Addr×Value)=>p.1=q.1/\H q.2.1=some (.tup (p.1.map kV))/\RelV p.2 q.2.2) kvs xs /\
   ∃ o es ep,h.get? a=some o/\o.ExactDict/\o.data=.dict es ep/\es.toList=xs.map (entryOfKey (tupleKind (bN P w)))/\(xs.map (·.1)).Nodup
 |.set S n=>h.SetOf (intKind P w) a S n
 |.ins C dx fs=>H dx=some (.own a)/\fs.length<=1000/\dx≠a/\h.get? a=some (PySem.W.instObj C dx) /\
   ∃ mA,h.Ns1 dx mA/\(∀ f,yN (fs.lookup f) (mA f))/\PySem.Within mA (fs.map (·.1))
 |.own _=>∃ o,h.get? a=some o
 |.xd fs=>∃ mA,h.Ns1 a mA/\∀ f,yN (fs.lookup f) (mA f)
 |.rng lo hi=>∃ t u v,h.get? a=some { cls:=.type "range",data:=.fields #[.int lo t,.int hi u,.int 1 v] }
 |.frz o u=>h.get? a=some o/\dG H h a u
 |.tbl ps=>h.get? a=some { cls:=.none,data:=.fields ps }
 |.met f x=>h.get? a=some (PySem.W.methodObj (.ref f) (.ref x))
 |.ext φ=>φ h/\(∃ o,h.get? a=some o)/\∀ h1 h2:Heap,φ h1->(∀ o,h1.get? a=some o->h2.get? a=some o)->φ h2
def HOk(H:Hp)(h:Heap):Prop:=∀ a o,H a=some o->dG P w H h a o
end
section
variable{P:Program}{w:World}{H H':Hp}{h h':Heap}{a:Addr}{o:HO}
theorem dG.lt(x:dG P w H h a o):a<h.objs.size:=by
 cases o with
 |lst xs=>obtain⟨_,_,_,_,e⟩:=x;exact Zau e
 |tup xs=>obtain⟨_,_,_,p⟩:=x;exact p.lt
 |dK kvs=>obtain⟨_,_,_,_,o,_,_,e,_⟩:=x;exact Zau e
 |dT kvs=>obtain⟨_,_,_,_,o,_,_,e,_⟩:=x;exact Zau e
 |set S n=>obtain⟨o,_,_,_,e,_⟩:=x;exact Zau e
 |ins C dx fs=>obtain⟨_,_,_,e,_⟩:=x;exact Zau e
 |own y=>obtain⟨_,e⟩:=x;exact Zau e
 |xd fs=>obtain⟨_,⟨_,_,_,e,_⟩,_⟩:=x;exact Zau e
 |rng lo hi=>obtain⟨_,_,_,e⟩:=x;exact Zau e
 |frz ob u=>obtain⟨e,_⟩:=x;exact Zau e
 |tbl ps=>exact Zau (show h.get? a=some _ from x)
 |met f y=>exact Zau (show h.get? a=some _ from x)
 |ext φ=>obtain⟨_,⟨_,e⟩,_⟩:=x;exact Zau e
theorem Paired.WQ{α β:Type}{F G:α->β->Prop}:∀ {l₁:List α}{l₂:List β},Paired F l₁ l₂->(∀ a b,F a b->G a b)->Paired G l₁ l₂
 |_,_,.nil,_=>.nil
 |_,_,.cons r t,f=>.cons (f _ _ r) (Paired.WQ t f)
theorem dG.stay(x:dG P w H h a o)(k:∀ b u,(b=a\/H b=some (.own a))->h.get? b=some u->h'.get? b=some u)
  (ho:∀ b,H b=some (.own a)->H' b=some (.own a))(ht:∀ b xs,H b=some (.tup xs)->H' b=some (.tup xs)):dG P w H' h' a o:=by
 induction o with
 |lst xs=>obtain⟨z,its,n,r,e⟩:=x;exact⟨z,its,n,r,k _ _ (.inl rfl) e⟩
 |tup xs=>obtain⟨z,its,r,c⟩:=x;exact⟨z,its,r,c.at' λo e=>k _ _ (.inl rfl) e⟩
 |dK kvs=>obtain⟨z,y,vs,r,ob,es,ep,e,c⟩:=x;exact⟨z,y,vs,r,ob,es,ep,k _ _ (.inl rfl) e,c⟩
 |dT kvs=>
  obtain⟨z,y,xs,r,ob,es,ep,e,c⟩:=x;exact⟨z,y,xs,Paired.WQ r λp q z=>⟨z.1,ht _ _ z.2.1,z.2.2⟩,ob,es,ep,k _ _ (.inl rfl) e,c⟩
 |set S n=>obtain⟨ob,es,ep,t,e,c⟩:=x;exact⟨ob,es,ep,t,k _ _ (.inl rfl) e,c⟩
 |ins C dx fs=>
  obtain⟨d,z,ne,e,mA,⟨od,es,ep,e2,c⟩,r⟩:=x;exact⟨ho _ d,z,ne,k _ _ (.inl rfl) e,mA,⟨od,es,ep,k _ _ (.inr d) e2,c⟩,r⟩
 |own y=>obtain⟨ob,e⟩:=x;exact⟨ob,k _ _ (.inl rfl) e⟩
 |xd fs=>obtain⟨mA,⟨od,es,ep,e,c⟩,r⟩:=x;exact⟨mA,⟨od,es,ep,k _ _ (.inl rfl) e,c⟩,r⟩
 |rng lo hi=>obtain⟨t,u,v,e⟩:=x;exact⟨t,u,v,k _ _ (.inl rfl) e⟩
 |frz ob u ih=>obtain⟨e,q⟩:=x;exact⟨k _ _ (.inl rfl) e,ih q⟩
 |tbl ps=>
  have e:h.get? a=some { cls:=.none,data:=.fields ps }:=x;show h'.get? a=some { cls:=.none,data:=.fields ps }
  exact k a _ (.inl rfl) e
 |met f y=>
  have e:h.get? a=some (PySem.W.methodObj (.ref f) (.ref y)):=x;show h'.get? a=some (PySem.W.methodObj (.ref f) (.ref y))
  exact k a _ (.inl rfl) e
 |ext φ=>obtain⟨p,⟨o,e⟩,st⟩:=x;exact⟨st _ _ p λo q=>k _ _ (.inl rfl) q,⟨o,k _ _ (.inl rfl) e⟩,st⟩
theorem HOk.lt(x:HOk P w H h)(e:H a=some o):a<h.objs.size:=(x a o e).lt
theorem HOk.fresh(x:HOk P w H h)(e:h.objs.size<=a):H a=none:=by
 cases q:H a with
 |none=>rfl
 |some u=>exact absurd (ZaG (x.lt q) e) (ZbU _)
theorem HOk.kept(x:HOk P w H h)(k:∀ b u,h.get? b=some u->h'.get? b=some u):HOk P w H h':=λa o e=>
 (x a o e).stay (λb u _ q=>k b u q) (λ_ q=>q) λ_ _ q=>q
theorem HOk.laid(x:HOk P w H h)(k:∀ b u,h.get? b=some u->h'.get? b=some u)(hp:h.objs.size<=a)(new:dG P w (upd H a o) h' a o):HOk P w (upd H a o) h':=λb u e=>by
 have hn:=x.fresh hp;by_cases hb:b=a
 ·subst hb;rw[aN] at e;cases e;exact new
 ·rw[aJ hb] at e;exact(x b u e).stay (λc v _ q=>k c v q) (λc q=>by rw[aJ (bR q hn)];exact q) λc xs q=>by rw[aJ (bR q hn)];exact q
end
def Rd(H:Hp)(a:Addr)(u:HO):Prop:=H a=some u\/∃ o,H a=some (.frz o u)
theorem Rd.of{H:Hp}{a:Addr}{u:HO}(h:H a=some u):Rd H a u:=.inl h
theorem Rd.ok{P:Program}{w:World}{H:Hp}{h:Heap}{a:Addr}{u:HO}(r:Rd H a u)(x:HOk P w H h):dG P w H h a u:=by
 rcases r with r|⟨o,r⟩
 ·exact x a u r
 ·obtain⟨_,q⟩:=x a _ r;exact q
def Mut:Option HO->Prop
 |some (.lst _)=>True
 |some (.dK _)=>True
 |some (.dT _)=>True
 |some (.set _ _)=>True
 |some (.ins _ _ _)=>True
 |some (.ext _)=>True
 |_=>False
section
variable{P:Program}{w:World}{H:Hp}{h h':Heap}{x e:Addr}{o':HO}
theorem HOk.write(ok:HOk P w H h)(mu:Mut (H x))(he:e=x\/H e=some (.own x))(k:∀ b u,b≠e->h.get? b=some u->h'.get? b=some u)(heo:∃ u,h'.get? e=some u)
  (new:dG P w (upd H x o') h' x o'):HOk P w (upd H x o') h':=λb u q=>by
 have nown:∀ c y,H c=some (.own y)->c≠x:=λc y r z=>by subst z;rw[r] at mu;exact mu
 have ntup:∀ c xs,H c=some (.tup xs)->c≠x:=λc xs r z=>by subst z;rw[r] at mu;exact mu
 by_cases hb:b=x
 ·subst hb;rw[aN] at q;cases q;exact new
 ·rw[aJ hb] at q;by_cases hbe:b=e
  ·have q':H b=some (.own x):=by
    rcases he with z|z
    ·exact absurd (hbe.trans z) hb
    ·rw[hbe];exact z
   rw[q] at q';cases q';obtain⟨v,hv⟩:=heo;exact⟨v,by rw[hbe];exact hv⟩
  ·refine(ok b u q).stay (λc v hc r=>k c v ?_ r) (λc r=>by rw[aJ (nown c b r)];exact r) λc xs r=>by rw[aJ (ntup c xs r)];exact r
   rcases hc with rfl|hc
   ·exact hbe
   ·rintro rfl;rcases he with z|z
    ·exact nown c b hc z
    ·rw[hc] at z;cases z;exact hb rfl
end
structure Un(fs ex:List Addr)(H H':Hp)(h h':Heap):Prop where
 keep:∀ b o,h.get? b=some o->H b=none->b ∉ fs->b ∉ ex->h'.get? b=some o
 slot:∀ b o,h.get? b=some o->H b=none->b∈fs->b ∉ ex->∃ sl,h'.get? b=some { o with slots:=sl }
 free:∀ b o,h.get? b=some o->H b=none->b ∉ ex->H' b=none
 there:∀ b o,h.get? b=some o->b ∉ ex->∃ o',h'.get? b=some o'
 tups:∀ b xs,H b=some (.tup xs)->H' b=some (.tup xs)
 frzs:∀ b o u,H b=some (.frz o u)->H' b=some (.frz o u)
 tbls:∀ b ps,H b=some (.tbl ps)->∃ more,H' b=some (.tbl (ps++more))
section
variable{fs fs' ex ex':List Addr}{H H1 H2:Hp}{h h1 h2 h':Heap}{a x e:Addr}{o:HO}
theorem Un.any(u:Un fs ex H H1 h h1){b:Addr}{ob:Obj}(q:h.get? b=some ob)(n:H b=none)(hx:b ∉ ex):∃ sl,h1.get? b=some { ob with slots:=sl }:=by
 by_cases hb:b∈fs
 ·exact u.slot b ob q n hb hx
 ·exact⟨ob.slots,u.keep b ob q n hb hx⟩
theorem Un.trans(a:Un fs ex H H1 h h1)(b:Un fs ex H1 H2 h1 h2):Un fs ex H H2 h h2 where
 keep:=λc ob q n hc hx=>b.keep c ob (a.keep c ob q n hc hx) (a.free c ob q n hx) hc hx
 slot:=λc ob q n hc hx=>by
  obtain⟨sl,e1⟩:=a.slot c ob q n hc hx;obtain⟨sl',e2⟩:=b.slot c _ e1 (a.free c ob q n hx) hc hx;exact⟨sl',e2⟩
 free:=λc ob q n hx=>by
  obtain⟨o',e1⟩:=a.there c ob q hx;exact b.free c o' e1 (a.free c ob q n hx) hx
 there:=λc ob q hx=>by
  obtain⟨o',e1⟩:=a.there c ob q hx;exact b.there c o' e1 hx
 tups:=λc xs q=>b.tups c xs (a.tups c xs q)
 frzs:=λc ob xs q=>b.frzs c ob xs (a.frzs c ob xs q)
 tbls:=λc ps q=>by
  obtain⟨m1,e1⟩:=a.tbls c ps q;obtain⟨m2,e2⟩:=b.tbls c _ e1;exact⟨m1++m2,by rw[e2,Array.append_assoc]⟩
theorem Un.kept(k:∀ b u,h.get? b=some u->h'.get? b=some u):Un fs ex H H h h':=
 ⟨λb ob q _ _ _=>k b ob q,λb ob q _ _ _=>⟨ob.slots,k b ob q⟩,λ_ _ _ n _=>n,λb ob q _=>⟨ob,k b ob q⟩,λ_ _ q=>q,λ_ _ _ q=>q,λ_ ps q=>⟨#[],by rw[q];simp⟩⟩
theorem Un.refl:Un fs ex H H h h:=Un.kept λ_ _ q=>q
theorem Un.laid(k:∀ b u,h.get? b=some u->h'.get? b=some u)(hp:h.objs.size<=a)(hn:H a=none):Un fs ex H (upd H a o) h h' where
 keep:=λb u q _ _ _=>k b u q
 slot:=λb u q _ _ _=>⟨u.slots,k b u q⟩
 free:=λb u q n _=>by rw[aJ (ZaE (ZaG (Zau q) hp))];exact n
 there:=λb u q _=>⟨u,k b u q⟩
 tups:=λb xs q=>by rw[aJ (bR q hn)];exact q
 frzs:=λb u xs q=>by rw[aJ (bR q hn)];exact q
 tbls:=λb ps q=>⟨#[],by rw[aJ (bR q hn),q];simp⟩
theorem Un.write(mu:Mut (H x))(he:e=x\/H e=some (.own x))(k:∀ b u,b≠e->h.get? b=some u->h'.get? b=some u)(heo:∃ u,h'.get? e=some u):Un fs ex H (upd H x o) h h':=by
 have hx:∀ b,H b=none->b≠x:=λb n z=>by subst z;rw[n] at mu;exact mu
 have hb:∀ b,H b=none->b≠e:=λb n z=>by
  subst z;rcases he with r|r
  ·exact hx b n r
  ·rw[n] at r;cases r
 have hm:∀ b u,H b=some u->¬Mut (some u)->b≠x:=λb u q nm z=>by subst z;rw[q] at mu;exact nm mu
 refine⟨λb u q n _ _=>k b u (hb b n) q,λb u q n _ _=>⟨u.slots,k b u (hb b n) q⟩,λb u q n _=>by rw[aJ (hx b n)];exact n,λb u q _=>?_,
  λb xs q=>by rw[aJ (hm b _ q λz=>z)];exact q,λb u xs q=>by rw[aJ (hm b _ q λz=>z)];exact q,λb ps q=>⟨#[],by rw[aJ (hm b _ q λz=>z),q];simp⟩⟩
 by_cases hbe:b=e
 ·subst hbe;exact heo
 ·exact⟨u,k b u hbe q⟩
theorem Un.mono(u:Un fs ex H H1 h h1)(hs:∀ b∈fs,b∈fs')(hx:∀ b∈ex,b∈ex'):Un fs' ex' H H1 h h1:=
 ⟨λb ob q n hb he=>u.keep b ob q n (λz=>hb (hs b z)) λz=>he (hx b z),λ_ _ q n _ he=>u.any q n λz=>he (hx _ z),λb ob q n he=>u.free b ob q n λz=>he (hx b z),λb ob q he=>u.there b ob q λz=>he (hx b z),u.tups,u.frzs,u.tbls⟩
end
def trk(h:Heap)(H:Hp):List Addr:=(List.range h.objs.size).filter λa=>(H a).isSome
def Ex(h:Heap)(H:Hp):Heap:=PySem.W.hideAll h (trk h H)
theorem Oq(h:Heap)(H:Hp):(Ex h H).objs.size=h.objs.size:=PySem.W.hideAll_size _ _
theorem Qz{h:Heap}{H:Hp}{b:Addr}{o:Obj}(e:h.get? b=some o)(n:H b=none):(Ex h H).get? b=some o:=
 PySem.W.hideAll_get _ e λhm=>by
  have q:(H b).isSome=true:=(Zav.mp hm).2;rw[n] at q;simp at q
theorem Uj{h:Heap}{H:Hp}{b:Addr}{o:Obj}(e:(Ex h H).get? b=some o):h.get? b=some o/\H b=none:=by
 have e':h.get? b=some o:=PySem.W.of_hideAll (trk h H) e;refine⟨e',?_⟩;cases q:H b with
 |none=>rfl
 |some x=>
  have hm:b∈trk h H:=Zav.mpr ⟨Zay.mpr (Zau e'),by simp[q]⟩
  have z:(Ex h H).get? b=none:=PySem.W.hideAll_none (trk h H) hm;rw[z] at e;cases e
def Uk(g h:Heap)(L:Addr):List (Addr×Obj):=(List.range h.objs.size).filterMap λa=>if a=L\/(g.get? a).isSome=true then none else(h.get? a).map λo=>(a,o)
def rest(g h:Heap)(L d:Addr):List (Addr×Obj):=(Uk g h L).filter λp=>decide (p.1≠d)
structure Mod(K:Frag)(mg:Str->Option Value)(base:Heap):Prop where
 kin:K.In base
 glob:base.Ns mainGlobals mg
 blt:∃ mb,base.Ns builtinsNs mb/\∀ x:Str,x≠"__name__"->mb x=bootBuiltins x
 nolimit:base.NoLimit
structure Cx where
 prog:Program
 w:World
 K:Frag
 mg:Str->Option Value
 base:Heap
 A:Around
 N:List Str
 s₀:Shared
 H₀:Hp
 env:Env
 outer:List Env
 stack:List Env
 ex:List Addr
 fn:Str->Bool
 calm:Bool
 pn:List (Addr×Obj)
 xe:Value->Shared->Prop
def frs(l:List Env):List Addr:=l.filterMap (·.frame)
noncomputable abbrev Cx.fs(X:Cx):List Addr:=frs X.outer
def Vis(sc:Scope)(x:Str):Prop:=sc.names.lookup x=some .local\/sc.names.lookup x=some .cell\/sc.names.lookup x=some .free
def Loc(sc:Scope)(x:Str):Prop:=sc.names.lookup x=some .local\/sc.names.lookup x=some .cell
def Look(env:Env)(h:Heap)(m:Str->Option Value)(x:Str)(u:Value):Prop:=
 (env.kindOf x=some .local/\m x=some u)\/((env.kindOf x=some .cell\/env.kindOf x=some .free)/\∃ c,env.cells.lookup x=some c/\h.IsCell c (some u))
structure Cx.Ok(X:Cx):Prop where
 mod:Mod X.K X.mg X.base
 kind:X.env.scope.kind=.function
 glob:X.env.globals=mainGlobals
 blt:X.env.builtins=builtinsNs
 above:X.s₀.heap.objs.size<=X.env.locals
 inj:∀ x y c,X.env.cells.lookup x=some c->X.env.cells.lookup y=some c->x=y
 has:∀ x,(X.env.kindOf x=some .cell\/X.env.kindOf x=some .free)->∃ c,X.env.cells.lookup x=some c
 cab:∀ x c,X.fn x=true->X.env.cells.lookup x=some c->X.s₀.heap.objs.size<=c
 hd:X.calm=true->X.A.handled=none
 frames:X.A.frames=some X.stack
 stk:X.stack=X.outer\/(X.stack=X.env::X.outer/\X.env.frame=some X.env.locals)
 exf:∀ b∈X.ex,b≠X.env.locals/\∀ x c,X.env.cells.lookup x=some c->c≠b
 bs:∀ b o,X.base.get? b=some o->X.s₀.heap.get? b=some o/\X.H₀ b=none
 bsz:X.base.objs.size<=X.s₀.heap.objs.size
 noex:∀ b o,X.base.get? b=some o->b ∉ X.ex
 exfs:∀ b∈X.ex,b ∉ X.fs
 xu:X.s₀.heap.FunFrames X.base X.outer
 frf:∀ b∈X.fs,X.H₀ b=none
structure Inv(X:Cx)(pins:List (Addr×Obj))(O:List (Option V))(H:Hp)(s:Shared):Prop where
 ok:X.Ok
 os:s.os=X.s₀.os
 bare:AllBare s.gens
 base:Un X.fs X.ex X.H₀ H X.s₀.heap s.heap
 loc:∃ m,s.heap.Ns X.env.locals m/\∀ (i:Nat) (x:Str) (v:V),X.N[i]?=some x->O[i]?=some (some v)->Vis X.env.scope x->∃ u,RelV v u/\Look X.env s.heap m x u
 cell:∀ x c,X.env.cells.lookup x=some c->∃ v,s.heap.IsCell c v
 free:H X.env.locals=none
 freeC:∀ x c,X.env.cells.lookup x=some c->H c=none
 pin:∀ p∈X.pn++pins,s.heap.get? p.1=some p.2/\H p.1=none/\p.1≠X.env.locals/\p.1 ∉ X.fs/\∀ v,p.2.data≠.cell v
 hok:HOk X.prog X.w H s.heap
 len:O.length=X.N.length
section
variable{X:Cx}{pins:List (Addr×Obj)}{O:List (Option V)}{H H':Hp}{s:Shared}{h':Heap}
theorem Cx.Ok.Zz(ok:X.Ok){b:Addr}{o:Obj}(e:X.base.get? b=some o):b ∉ X.fs:=λhb=>by
 have:=(ok.xu.mem hb).1;rw[e] at this;cases this
theorem Inv.bs(I:Inv X pins O H s):∀ b o,X.base.get? b=some o->s.heap.get? b=some o/\H b=none:=λb o e=>
 ⟨I.base.keep b o (I.ok.bs b o e).1 (I.ok.bs b o e).2 (I.ok.Zz e) (I.ok.noex b o e),I.base.free b o (I.ok.bs b o e).1 (I.ok.bs b o e).2 (I.ok.noex b o e)⟩
theorem Inv.bk(I:Inv X pins O H s):∀ b o,X.base.get? b=some o->s.heap.get? b=some o:=λb o e=>(I.bs b o e).1
theorem Inv.mod(I:Inv X pins O H s):Mod X.K X.mg X.base:=I.ok.mod
theorem Inv.kIn(I:Inv X pins O H s):X.K.In s.heap:=I.ok.mod.kin.keeps I.bk
theorem Inv.nolimit(I:Inv X pins O H s):s.heap.NoLimit:=I.ok.mod.nolimit.keeps I.bk
theorem Inv.fr(I:Inv X pins O H s):∃ m,Fr X.base X.env.locals s.heap m:=
 let⟨m,hn,_⟩:=I.loc
 ⟨m,hn,I.bk,ZaI I.ok.bsz I.ok.above⟩
theorem Inv.lt(I:Inv X pins O H s):X.env.locals<s.heap.objs.size:=let⟨_,hn,_⟩:=I.loc;hn.lt
theorem Inv.sz(I:Inv X pins O H s):X.s₀.heap.objs.size<=s.heap.objs.size:=ZaI I.ok.above (ZaA I.lt)
theorem Inv.ZC(I:Inv X pins O H s){a:Addr}(h:s.heap.objs.size<=a):a ∉ X.fs:=λhb=>by
 obtain⟨_,o,ho,_⟩:=I.ok.xu.mem hb;exact absurd (ZaG (Zau ho) (ZaI I.sz h)) (ZbU _)
theorem Inv.cne(I:Inv X pins O H s):∀ x c,X.env.cells.lookup x=some c->c≠X.env.locals:=λx c e z=>by
 obtain⟨v,o,ho,hd⟩:=I.cell x c e;obtain⟨m,⟨o',es,ep,ho',hd',_⟩,_⟩:=I.loc;rw[z,ho'] at ho;cases ho;rw[hd'] at hd;cases hd
theorem Inv.xu(I:Inv X pins O H s):s.heap.FunFrames X.base X.outer:=by
 have all:∀ (l:List Env),(∀ b∈frs l,b∈X.fs)->X.s₀.heap.FunFrames X.base l->s.heap.FunFrames X.base l:=by
  intro l;induction l with
  |nil=>intro _ _;trivial
  |cons env r ih=>
   intro hs hl;obtain⟨hk,⟨L,o,hf,hn,ho,hd⟩,hr⟩:=hl;have hL:L∈X.fs:=hs L (by unfold frs;rw[ZcH,hf];exact Zax)
   obtain⟨sl,e⟩:=I.base.slot L o ho (I.ok.frf L hL) hL λz=>I.ok.exfs L z hL;exact⟨hk,⟨L,_,hf,hn,e,hd⟩,ih (λb hb=>hs b (by unfold frs;rw[ZcH,hf];exact Zat _ hb)) hr⟩
 exact all X.outer (λ_ hb=>hb) I.ok.xu
theorem Inv.stack(I:Inv X pins O H s):s.heap.FunFrames X.base X.stack:=by
 rcases I.ok.stk with e|⟨e,hf⟩
 ·rw[e];exact I.xu
 ·rw[e];obtain⟨m,hn,_⟩:=I.loc;refine .cons (by rw[I.ok.kind];decide) hf hn ?_ I.xu
  exact Heap.get?_none_of_le (ZaI I.ok.bsz I.ok.above)
theorem Inv.Kl(I:Inv X pins O H s):∀ b∈frs X.stack,b∈X.env.locals::X.fs:=λb hb=>by
 rcases I.ok.stk with e|⟨e,hf⟩
 ·rw[e] at hb;exact Zat _ hb
 ·rw[e] at hb;unfold frs at hb;rw[ZcH,hf] at hb;exact hb
theorem Inv.Mj(I:Inv X pins O H s):∀ b∈frs X.stack,H b=none:=λb hb=>by
 rcases ZaC.mp (I.Kl b hb) with e|hb
 ·rw[e];exact I.free
 ·obtain⟨_,o,ho,_⟩:=I.ok.xu.mem hb;exact I.base.free b o ho (I.ok.frf b hb) λz=>I.ok.exfs b z hb
theorem Inv.step{g':Array GenState}{t':Nat}{d':Drawn}{ch:List Addr}(I:Inv X pins O H s)
  (hch:∀ b∈ch,(b∈X.ex\/X.s₀.heap.objs.size<=b)/\b≠X.env.locals/\(∀ x c,X.env.cells.lookup x=some c->c≠b)/\∀ p∈X.pn++pins,p.1≠b)
  (keep:∀ b o,b≠X.env.locals->b ∉ X.fs->b ∉ ch->s.heap.get? b=some o->H b=none->h'.get? b=some o)
  (slot:∀ b o,b≠X.env.locals->b∈X.fs->b ∉ ch->s.heap.get? b=some o->H b=none->∃ sl,h'.get? b=some { o with slots:=sl })(free:∀ b o,b ∉ ch->s.heap.get? b=some o->H b=none->H' b=none)
  (there:∀ b o,b ∉ ch->s.heap.get? b=some o->∃ o',h'.get? b=some o')
  (tups:∀ b xs,H b=some (.tup xs)->H' b=some (.tup xs))(frzs:∀ b o u,H b=some (.frz o u)->H' b=some (.frz o u))(tbls:∀ b ps,H b=some (.tbl ps)->∃ more,H' b=some (.tbl (ps++more)))
  (ns:∀ m,s.heap.Ns X.env.locals m->h'.Ns X.env.locals m)(hok:HOk X.prog X.w H' h')(hg:AllBare g') :
  Inv X pins O H' { s with heap:=h',gens:=g',drawn:=d',toks:=t' }:=by
 have neL:∀ b o,X.s₀.heap.get? b=some o->b≠X.env.locals:=λb o e=>ZaE (ZaG (Zau e) I.ok.above);have neC:∀ b o,X.s₀.heap.get? b=some o->b ∉ X.ex->b ∉ ch:=λb o e hx hb=>by
  rcases(hch b hb).1 with z|z
  ·exact hx z
  ·exact absurd (ZaG (Zau e) z) (ZbU _)
 have cellK:∀ x c,X.env.cells.lookup x=some c->∀ v,s.heap.IsCell c v->h'.IsCell c v:=λx c e v ⟨o,ho,hd⟩=>by
  have nch:c ∉ ch:=λz=>(hch c z).2.2.1 x c e rfl;by_cases hc:c∈X.fs
  ·obtain⟨sl,q⟩:=slot c o (I.cne x c e) hc nch ho (I.freeC x c e);exact⟨_,q,hd⟩
  ·exact⟨o,keep c o (I.cne x c e) hc nch ho (I.freeC x c e),hd⟩
 refine⟨I.ok,I.os,hg,⟨λb o e n hb hx=>?_,λb o e n hb hx=>?_,λb o e n hx=>?_,λb o e hx=>?_,λb xs e=>tups b xs (I.base.tups b xs e),λb o xs e=>frzs b o xs (I.base.frzs b o xs e),λb ps e=>?_⟩,?_,λx c e=>?_,?_,λx c e=>?_,λp hp=>?_,hok,I.len⟩
 ·exact keep b o (neL b o e) hb (neC b o e hx) (I.base.keep b o e n hb hx) (I.base.free b o e n hx)
 ·obtain⟨sl,e1⟩:=I.base.slot b o e n hb hx;obtain⟨sl',e2⟩:=slot b _ (neL b o e) hb (neC b o e hx) e1 (I.base.free b o e n hx);exact⟨sl',e2⟩
 ·obtain⟨o',e1⟩:=I.base.there b o e hx;exact free b o' (neC b o e hx) e1 (I.base.free b o e n hx)
 ·obtain⟨o',e1⟩:=I.base.there b o e hx;exact there b o' (neC b o e hx) e1
 ·obtain⟨m1,e1⟩:=I.base.tbls b ps e;obtain⟨m2,e2⟩:=tbls b _ e1;exact⟨m1++m2,by rw[e2,Array.append_assoc]⟩
 ·obtain⟨m,hn,hl⟩:=I.loc;refine⟨m,ns m hn,λi x v e1 e2 e3=>?_⟩;obtain⟨u,r,l⟩:=hl i x v e1 e2 e3;refine⟨u,r,?_⟩;rcases l with l|⟨k,c,e,z⟩
  ·exact .inl l
  ·exact .inr ⟨k,c,e,cellK x c e _ z⟩
 ·obtain⟨v,z⟩:=I.cell x c e;exact⟨v,cellK x c e v z⟩
 ·obtain⟨m,⟨o,_,_,ho,_⟩,_⟩:=I.loc;exact free _ o (λz=>(hch _ z).2.1 rfl) ho I.free
 ·obtain⟨v,o,ho,hd⟩:=I.cell x c e;exact free c o (λz=>(hch c z).2.2.1 x c e rfl) ho (I.freeC x c e)
 ·obtain⟨e,n,ne,nf,d⟩:=I.pin p hp;have nch:p.1 ∉ ch:=λz=>(hch p.1 z).2.2.2 p hp rfl;exact⟨keep p.1 p.2 ne nf nch e n,free p.1 p.2 nch e n,ne,nf,d⟩
theorem Inv.un{t':Nat}(I:Inv X pins O H s)(u:Un X.fs [] H H' s.heap h')(hok:HOk X.prog X.w H' h'):Inv X pins O H' { s with heap:=h',toks:=t' }:=by
 obtain⟨m,⟨o,es,ep,ho,r⟩,_⟩:=id I.loc;obtain⟨sl,hL⟩:=u.any ho I.free (by simp)
 exact I.step (g':=s.gens) (d':=s.drawn) (ch:=[]) (λ_ z=>nomatch z) (λb o _ hb _ e n=>u.keep b o e n hb (by simp)) (λb o _ hb _ e n=>u.slot b o e n hb (by simp)) (λb o _ e n=>u.free b o e n (by simp)) (λb o _ e=>u.there b o e (by simp)) u.tups u.frzs u.tbls (λm' hm=>by
  obtain⟨o',es',ep',ho',r'⟩:=hm;rw[ho] at ho';cases ho';exact⟨_,es',ep',hL,r'⟩) hok I.bare
theorem Inv.call{g':Array GenState}{t':Nat}{d':Drawn}{ch:List Addr}(I:Inv X pins O H s)(u:Un (frs X.stack) ch H H' s.heap h')(hok:HOk X.prog X.w H' h')(hg:AllBare g')
  (hch:∀ b∈ch,(b∈X.ex\/X.s₀.heap.objs.size<=b)/\b≠X.env.locals/\(∀ x c,X.env.cells.lookup x=some c->c≠b)/\∀ p∈X.pn++pins,p.1≠b) :
  Inv X pins O H' { s with heap:=h',gens:=g',drawn:=d',toks:=t' }:=by
 obtain⟨m,⟨o,es,ep,ho,r⟩,_⟩:=id I.loc;obtain⟨sl,hL⟩:=u.any ho I.free λz=>(hch _ z).2.1 rfl;exact I.step (ch:=ch) hch (λb o hL hb hc e n=>u.keep b o e n (λz=>(ZaC.mp (I.Kl b z)).elim hL hb) hc) (λb o _ _ hc e n=>u.any e n hc) (λb o hc e n=>u.free b o e n hc) (λb o hc e=>u.there b o e hc) u.tups u.frzs u.tbls (λm' hm=>by
  obtain⟨o',es',ep',ho',r'⟩:=hm;rw[ho] at ho';cases ho';exact⟨_,es',ep',hL,r'⟩) hok hg
theorem Inv.turned{t':Nat}{it:Addr}(I:Inv X pins O H s)(k:∀ b o,b≠it->s.heap.get? b=some o->h'.get? b=some o)(hn:H it=none)(hL:it≠X.env.locals)
  (h1:it∈X.ex\/X.s₀.heap.objs.size<=it)(h2:∀ x c,X.env.cells.lookup x=some c->c≠it)(h3:∀ p∈X.pn++pins,p.1≠it):Inv X pins O H { s with heap:=h',toks:=t' }:=by
 have nit:∀ b u,H b=some u->b≠it:=λb u e z=>by rw[z,hn] at e;cases e
 refine I.step (g':=s.gens) (d':=s.drawn) (ch:=[it]) (λb hb=>?_) (λb o _ _ hc e _=>k b o (λz=>hc (by simp[z])) e) (λb o _ _ hc e _=>⟨o.slots,k b o (λz=>hc (by simp[z])) e⟩) (λ_ _ _ _ n=>n)
  (λb o hc e=>⟨o,k b o (λz=>hc (by simp[z])) e⟩) (λ_ _ e=>e) (λ_ _ _ e=>e) (λb ps e=>⟨#[],by rw[e];simp⟩) (λm hm=>?_) (λb u e=>?_) I.bare
 ·have e:b=it:=by simpa using hb
  subst e;exact⟨h1,hL,h2,h3⟩
 ·obtain⟨o,es,ep,ho,r⟩:=hm;exact⟨o,es,ep,k _ o (Zbl hL) ho,r⟩
 ·refine(I.hok b u e).stay (λc v hc q=>k c v ?_ q) (λ_ q=>q) λ_ _ q=>q;rcases hc with z|z
  ·rw[z];exact nit b u e
  ·exact nit c _ z
theorem Inv.tok(I:Inv X pins O H s)(t:Nat):Inv X pins O H { s with toks:=t }:=I.un (h':=s.heap) (t':=t) Un.refl I.hok
theorem Inv.kept{t':Nat}(I:Inv X pins O H s)(k:∀ b u,s.heap.get? b=some u->h'.get? b=some u):Inv X pins O H { s with heap:=h',toks:=t' }:=I.un (Un.kept k) (I.hok.kept k)
theorem Inv.laid{a:Addr}{o:HO}{t':Nat}(I:Inv X pins O H s)(k:∀ b u,s.heap.get? b=some u->h'.get? b=some u)(hp:s.heap.objs.size<=a)(new:dG X.prog X.w (upd H a o) h' a o) :
  Inv X pins O (upd H a o) { s with heap:=h',toks:=t' }:=I.un (Un.laid k hp (I.hok.fresh hp)) (I.hok.laid k hp new)
theorem Inv.write{x e:Addr}{o:HO}{t':Nat}(I:Inv X pins O H s)(mu:Mut (H x))(he:e=x\/H e=some (.own x))(k:∀ b u,b≠e->s.heap.get? b=some u->h'.get? b=some u)(heo:∃ u,h'.get? e=some u)
  (new:dG X.prog X.w (upd H x o) h' x o):Inv X pins O (upd H x o) { s with heap:=h',toks:=t' }:=I.un (Un.write mu he k heo) (I.hok.write mu he k heo new)
theorem Inv.weak{O':List (Option V)}(I:Inv X pins O H s)(hl:O'.length=O.length)(w:∀ (i:Nat) v,O'[i]?=some (some v)->O[i]?=some (some v)):Inv X pins O' H s:=
 ⟨I.ok,I.os,I.bare,I.base,let⟨m,hn,hl'⟩:=I.loc;⟨m,hn,λi x v e1 e2 e3=>hl' i x v e1 (w i v e2) e3⟩,I.cell,I.free,I.freeC,I.pin,I.hok,hl.trans I.len⟩
theorem Inv.Ml{pins':List (Addr×Obj)}(I:Inv X pins O H s)(h:∀ p∈pins',s.heap.get? p.1=some p.2/\H p.1=none/\p.1≠X.env.locals/\p.1 ∉ X.fs/\∀ v,p.2.data≠.cell v):Inv X pins' O H s:=
 ⟨I.ok,I.os,I.bare,I.base,I.loc,I.cell,I.free,I.freeC,λp hp=>(ZaK.mp hp).elim (λz=>I.pin p (Zbm _ z)) (h p),I.hok,I.len⟩
theorem Ho{N:List Str}(hN:N.Nodup){i j:Nat}{x:Str}(a:N[i]?=some x)(b:N[j]?=some x):i=j:=by
 obtain⟨h1,e1⟩:=Zad.mp a;obtain⟨h2,e2⟩:=Zad.mp b;exact(List.getElem_inj hN).mp (e1.trans e2.symm)
theorem Dh{M:Model}{A:Around}{E:Value->Shared->Prop}{i:Nat}{x:Str}{v:V}{u:Value}{Q:Unit->Shared->Prop}(I:Inv X pins O H s)(hN:X.N.Nodup)(hi:X.N[i]?=some x)(hx:Loc X.env.scope x)(r:RelV v u)
  (h:∀ s',Inv X pins (O.set i (some v)) H s'->(∃ a,Heap.SameBut a s.heap s'.heap/\(a=X.env.locals\/X.env.cells.lookup x=some a))->Q () s')(hf:X.fn x=true\/X.env.scope.names.lookup x=some .local:=by first|exact .inl rfl|exact .inr rfl|assumption):wpAny M A (storeName X.env x u) Q E s:=by
 obtain⟨m,hn,hl⟩:=id I.loc;have hcls:(X.env.scope.kind==.class||(X.env.scope.kind==.module&&X.env.locals != X.env.globals))=false:=by rw[I.ok.kind];rfl
 have hiσ:i<O.length:=by rw[I.len];exact(Zad.mp hi).1
 have cne:=I.cne;have tracked:∀ {a:Addr}{h':Heap},(∃ o,s.heap.get? a=some o/\H a=none)->Heap.SameBut a s.heap h'->HOk X.prog X.w H h':=λ{a h'} ha hs b ob e=>by
  obtain⟨_,_,hfree⟩:=ha;refine(I.hok b ob e).stay (λc w' hc q=>(hs.2 c ?_).trans q) (λ_ q=>q) λ_ _ q=>q;rintro rfl;rcases hc with rfl|hc
  ·rw[hfree] at e;cases e
  ·rw[hfree] at hc;cases hc
 rcases hx with hk|hk
 ·refine wpAny_storeName_local hk hn (λh' hn' hs=>?_) hcls;obtain⟨oL,_,_,hoL,_⟩:=id hn;refine h _ ⟨I.ok,I.os,I.bare,⟨λb o e n hb hx=>?_,λb o e n hb hx=>?_,I.base.free,λb o e hx=>?_,I.base.tups,I.base.frzs,I.base.tbls⟩,⟨_,hn',λj y v' e1 e2 e3=>?_⟩,λy c e=>?_,I.free,I.freeC,λp hp=>?_,tracked ⟨oL,hoL,I.free⟩ hs,by simpa using I.len⟩ ⟨_,hs,.inl rfl⟩
  ·exact(hs.2 b (ZaE (ZaG (Zau e) I.ok.above))).trans (I.base.keep b o e n hb hx)
  ·obtain⟨sl,e1⟩:=I.base.slot b o e n hb hx;exact⟨sl,(hs.2 b (ZaE (ZaG (Zau e) I.ok.above))).trans e1⟩
  ·obtain⟨o',e1⟩:=I.base.there b o e hx;exact⟨o',(hs.2 b (ZaE (ZaG (Zau e) I.ok.above))).trans e1⟩
  ·by_cases hj:j=i
   ·subst hj;rw[hi] at e1;cases e1;rw[Zbd hiσ] at e2;cases e2;exact⟨u,r,.inl ⟨hk,by simp⟩⟩
   ·rw[Zaw (Zbl hj)] at e2;obtain⟨u',r',q⟩:=hl j y v' e1 e2 e3;refine⟨u',r',?_⟩;rcases q with⟨k,e⟩|⟨k,c,e,z⟩
    ·refine .inl ⟨k,?_⟩;have:y≠x:=λe=>hj (Ho hN e1 (e▸hi));simp[this,e]
    ·exact .inr ⟨k,c,e,z.sameBut hs (cne y c e)⟩
  ·obtain⟨w',z⟩:=I.cell y c e;exact⟨w',z.sameBut hs (cne y c e)⟩
  ·obtain⟨e,n,ne,nf,d⟩:=I.pin p hp;exact⟨(hs.2 p.1 ne).trans e,n,ne,nf,d⟩
 ·have hfn:X.fn x=true:=by
   rcases hf with z|z
   ·exact z
   ·rw[z] at hk;cases hk
  obtain⟨c,hc⟩:=I.ok.has x (.inl hk);obtain⟨w',z⟩:=I.cell x c hc;refine wpAny_storeName_cell I.ok.kind hk hc z (λh' hc' hs=>?_);obtain⟨oc,hoc,hocd⟩:=id z;refine h { s with heap:=h' } ⟨I.ok,I.os,I.bare,⟨λb o e n hb hx=>?_,λb o e n hb hx=>?_,I.base.free,λb o e hx=>?_,I.base.tups,I.base.frzs,I.base.tbls⟩,⟨m,hn.sameBut hs (Zbl (cne x c hc)),λj y v' e1 e2 e3=>?_⟩,λy c' e=>?_,I.free,I.freeC,λp hp=>?_,tracked ⟨oc,hoc,I.freeC x c hc⟩ hs,by simpa using I.len⟩ ⟨c,hs,.inr hc⟩
  ·exact(hs.2 b (ZaE (ZaG (Zau e) (I.ok.cab x c hfn hc)))).trans (I.base.keep b o e n hb hx)
  ·obtain⟨sl,e1⟩:=I.base.slot b o e n hb hx;exact⟨sl,(hs.2 b (ZaE (ZaG (Zau e) (I.ok.cab x c hfn hc)))).trans e1⟩
  ·obtain⟨o',e1⟩:=I.base.there b o e hx;exact⟨o',(hs.2 b (ZaE (ZaG (Zau e) (I.ok.cab x c hfn hc)))).trans e1⟩
  ·by_cases hj:j=i
   ·subst hj;rw[hi] at e1;cases e1;rw[Zbd hiσ] at e2;cases e2;exact⟨u,r,.inr ⟨.inl hk,c,hc,hc'⟩⟩
   ·rw[Zaw (Zbl hj)] at e2;obtain⟨u',r',q⟩:=hl j y v' e1 e2 e3;refine⟨u',r',?_⟩;rcases q with q|⟨k,c',e,z'⟩
    ·exact .inl q
    ·refine .inr ⟨k,c',e,z'.sameBut hs ?_⟩;rintro rfl;exact hj (Ho hN e1 (I.ok.inj _ _ _ e hc▸hi))
  ·by_cases hcc:c'=c
   ·subst hcc;exact⟨_,hc'⟩
   ·obtain⟨w2,z2⟩:=I.cell y c' e;exact⟨w2,z2.sameBut hs hcc⟩
  ·obtain⟨e,n,ne,nf,d⟩:=I.pin p hp;refine⟨(hs.2 p.1 ?_).trans e,n,ne,nf,d⟩;intro q;rw[q,hoc] at e;have q':oc=p.2:=Zaf e;exact d w' (by rw[<-q'];exact hocd)
theorem Hq{M:Model}{A:Around}{E:Value->Shared->Prop}{i:Nat}{x:Str}{v:V}{u:Value}{Q:Unit->Shared->Prop}(I:Inv X pins O H s)(hN:X.N.Nodup)(hi:X.N[i]?=some x)(hx:Loc X.env.scope x)(r:RelV v u)
  (h:∀ s',Inv X pins (O.set i (some v)) H s'->Q () s')(hf:X.fn x=true\/X.env.scope.names.lookup x=some .local:=by first|exact .inl rfl|exact .inr rfl|assumption):wpAny M A (storeName X.env x u) Q E s:=
 Dh I hN hi hx r (λs' I' _=>h s' I') hf
theorem Inv.call'{s':Shared}{ch:List Addr}(I:Inv X pins O H s)(ho:s'.os=s.os)(u:Un (frs X.stack) ch H H' s.heap s'.heap)(hok:HOk X.prog X.w H' s'.heap)(hg:AllBare s'.gens)
  (hch:∀ b∈ch,(b∈X.ex\/X.s₀.heap.objs.size<=b)/\b≠X.env.locals/\(∀ x c,X.env.cells.lookup x=some c->c≠b)/\∀ p∈X.pn++pins,p.1≠b):Inv X pins O H' s':=by
 obtain⟨h',g',d',t',o'⟩:=s';have e:o'=s.os:=ho;subst e;exact I.call (g':=g') (t':=t') (d':=d') u hok hg hch
end
noncomputable abbrev XK:=Value->Option Addr->Hp->Prop
noncomputable abbrev St:=List (Option V)
noncomputable abbrev VK:=V->Hp->Prop
noncomputable abbrev TE:=St->Hp->VK->Prop
noncomputable abbrev TT:=St->Hp->(Bool->Hp->Prop)->Prop
noncomputable abbrev TA:=St->Hp->(List V->Hp->Prop)->Prop
structure Ends where
 nx:St->Hp->Prop
 rt:VK
 bk:St->Hp->Prop:=λ_ _=>False
 ct:St->Hp->Prop:=λ_ _=>False
noncomputable abbrev TS:=Ends->St->Hp->Prop
def EP(X:Cx)(pins:List (Addr×Obj))(O:St)(Q:VK)(u:Value)(s':Shared):Prop:=∃ v H',Inv X pins O H' s'/\RelV v u/\Q v H'
def TP(X:Cx)(pins:List (Addr×Obj))(O:St)(Q:Bool->Hp->Prop)(b:Bool)(s':Shared):Prop:=∃ H',Inv X pins O H' s'/\Q b H'
def AP(X:Cx)(pins:List (Addr×Obj))(O:St)(Q:List V->Hp->Prop)(us:List Value)(s':Shared):Prop:=∃ vs H',Inv X pins O H' s'/\Vals vs us/\Q vs H'
def SP(X:Cx)(pins:List (Addr×Obj))(D:Ends)(f:Flow)(s':Shared):Prop:=
 match f with
 |.next=>∃ O' H',Inv X pins O' H' s'/\D.nx O' H'
 |.brk=>∃ O' H',Inv X pins O' H' s'/\D.bk O' H'
 |.cont=>∃ O' H',Inv X pins O' H' s'/\D.ct O' H'
 |.ret u=>∃ v O' H',Inv X pins O' H' s'/\RelV v u/\D.rt v H'
def PE(X:Cx)(e:Expr)(t:TE):Prop:=
 ∀ (pins:List (Addr×Obj)) (s:Shared) (O:St) (H:Hp) (Q:VK),Inv X pins O H s->t O H Q->wpAny (model X.prog X.w) X.A (eval e X.env) (EP X pins O Q) X.xe s
def PT(X:Cx)(e:Expr)(t:TT):Prop:=
 ∀ (pins:List (Addr×Obj)) (s:Shared) (O:St) (H:Hp) (Q:Bool->Hp->Prop),Inv X pins O H s->t O H Q->wpAny (model X.prog X.w) X.A (isTrue e X.env (eval e X.env)) (TP X pins O Q) X.xe s
def PW(X:Cx)(e:Expr)(t:TT):Prop:=
 ∀ (whole:Sem Value) (pins:List (Addr×Obj)) (s:Shared) (O:St) (H:Hp) (Q:Bool->Hp->Prop),Inv X pins O H s->t O H Q->wpAny (model X.prog X.w) X.A (isTrue e X.env whole) (TP X pins O Q) X.xe s
theorem PW.pt{X:Cx}{e:Expr}{t:TT}(h:PW X e t):PT X e t:=h _
def PA(X:Cx)(es:List Expr)(t:TA):Prop:=
 ∀ (pos:Pos) (pins:List (Addr×Obj)) (s:Shared) (O:St) (H:Hp) (Q:List V->Hp->Prop),Inv X pins O H s->t O H Q->wpAny (model X.prog X.w) X.A (spliced (backTo pos (starEach es X.env))) (AP X pins O Q) X.xe s
def PS(X:Cx)(st:Stmt)(t:TS):Prop:=
 ∀ (pins:List (Addr×Obj)) (s:Shared) (O:St) (H:Hp) (D:Ends),Inv X pins O H s->t D O H->wpAny (model X.prog X.w) X.A (exec st X.env) (SP X pins D) X.xe s
def PSs(X:Cx)(st:List Stmt)(t:TS):Prop:=
 ∀ (pins:List (Addr×Obj)) (s:Shared) (O:St) (H:Hp) (D:Ends),Inv X pins O H s->t D O H->wpAny (model X.prog X.w) X.A (execs st X.env) (SP X pins D) X.xe s
theorem thn{α:Type}{t:Sem α}{Q Q':α->Shared->Prop}{M:Model}{A:Around}{E:Value->Shared->Prop}{s:Shared}(h:wpAny M A t Q E s)(hQ:∀ a s,Q a s->Q' a s):wpAny M A t Q' E s:=Zbk h hQ λ_ _ x=>x
section
variable{X:Cx}
def lJ(i:Nat):TE:=λO H Q=>∃ v,O[i]?=some (some v)/\Q v H
def tC(v:V):TE:=λ_ H Q=>Q v H
theorem Km{i:Nat}{x:Str}{pos:Pos}(hN:X.N[i]?=some x)(hv:Vis X.env.scope x)(hd:(x==("__debug__":Str))=false:=by decide)(hcd:(x==("__classdict__":Str))=false:=by decide):PE X (.Name x pos) (lJ i):=by
 intro pins s O H Q I h;obtain⟨v,e,h⟩:=h;obtain⟨m,hn,hl⟩:=I.loc;obtain⟨u,r,l⟩:=hl i x v hN e hv;have fin:EP X pins O Q u s:=⟨v,H,I,r,h⟩;rcases l with⟨hk,hm⟩|⟨hk,c,hc,hcell⟩
 ·exact wpAny_Name (wpAny_loadName_local I.ok.kind hk hn hm fin) hd
 ·rcases hk with hk|hk
  ·exact wpAny_Name (wpAny_loadName_cell I.ok.kind hk hc hcell fin) hd
  ·exact wpAny_Name (wpAny_loadName_free I.ok.kind hk hc hcell fin hcd) hd
theorem aA{i j pos}:PE X (.Constant (.int i) j pos) (tC (.int i)):=λ_ _ _ H _ I h=>wpAny_Constant_int ⟨.int i,H,I.tok _,⟨_,rfl⟩,h⟩
theorem Hr{b j pos}:PE X (.Constant (.bool b) j pos) (tC (.bl b)):=λ_ _ _ H _ I h=>Constant_bool ⟨.bl b,H,I,rfl,h⟩
theorem ud{j pos}:PE X (.Constant .none j pos) (tC .non):=λ_ _ _ H _ I h=>Constant_none ⟨.non,H,I,rfl,h⟩
theorem Ko{x j pos}:PE X (.Constant (.str x) j pos) (tC (.str x)):=λ_ _ _ H _ I h=>Calls.Constant_str ⟨.str x,H,I.tok _,⟨_,rfl⟩,h⟩
def Gl(X:Cx)(x:Str):Prop:=X.env.kindOf x=some .globalImplicit
theorem Mm{E:Value->Shared->Prop}{pins:List (Addr×Obj)}{s:Shared}{O:St}{H:Hp}{x:Str}{u:Value}{pos:Pos}{Q:Value->Shared->Prop}(I:Inv X pins O H s)(hg:Gl X x)(hm:X.mg x=some u)(h:Q u s)
  (hd:(x==("__debug__":Str))=false:=by decide):wpAny (model X.prog X.w) X.A (eval (.Name x pos) X.env) Q E s:=
 Calls.Name_function_global I.ok.kind hg (Calls.loadGlobal_global (by rw[I.ok.glob];exact I.mod.glob.keeps I.bk) hm h) hd
theorem ue{E:Value->Shared->Prop}{pins:List (Addr×Obj)}{s:Shared}{O:St}{H:Hp}{x:Str}{u:Value}{pos:Pos}{Q:Value->Shared->Prop}(I:Inv X pins O H s)(hg:Gl X x)(hm:X.mg x=none)(hv:bootBuiltins x=some u)(h:Q u s)
  (hn:x≠"__name__":=by decide)(hd:(x==("__debug__":Str))=false:=by decide):wpAny (model X.prog X.w) X.A (eval (.Name x pos) X.env) Q E s:=by
 obtain⟨mb,h1,h2⟩:=I.mod.blt;exact Calls.Name_function_global I.ok.kind hg (Calls.loadGlobal_builtin (by rw[I.ok.glob];exact I.mod.glob.keeps I.bk) hm (by rw[I.ok.blt];exact h1.keeps I.bk) ((h2 x hn).trans hv) h) hd
theorem Ul{x:Str}{v:V}{u:Value}{pos:Pos}(hg:Gl X x)(hm:X.mg x=some u)(r:RelV v u)(hd:(x==("__debug__":Str))=false:=by decide):PE X (.Name x pos) (tC v):=
 λ_ _ _ H _ I h=>Mm I hg hm ⟨v,H,I,r,h⟩ hd
theorem Um{x:Str}{v:V}{u:Value}{pos:Pos}(hg:Gl X x)(hm:X.mg x=none)(hv:bootBuiltins x=some u)(r:RelV v u)(hn:x≠"__name__":=by decide)(hd:(x==("__debug__":Str))=false:=by decide):PE X (.Name x pos) (tC v):=
 λ_ _ _ H _ I h=>ue I hg hm hv ⟨v,H,I,r,h⟩ hn hd
variable{a b:Expr}{ta tb:TE}{pos:Pos}
def tB(t:TE):TT:=λO H Q=>t O H λx H1=>∃ c,x=.bl c/\Q c H1
theorem qg{e:Expr}{t:TE}(h:PE X e t)(he:∀ whole,isTrue e X.env whole=(do let v <-whole;standAt e.pos;holding [v] (truthy v)):=by intro _;rfl):PT X e (tB t):=by
 intro pins s O H Q I hw;refine isTrue_plain (thn (h pins s O H _ I hw) ?_) (he _);rintro v s1 ⟨x,H1,I1,r1,q1⟩;obtain⟨d,rfl,q⟩:=q1;cases r1;exact wpAny_truthy_bool ⟨H1,I1,q⟩
variable{tA tB':TT}{rest:List Expr}
def Yt(t u:TT):TT:=λO H Q=>t O H λc H1=>if c=true then u O H1 Q else Q false H1
def tOr(t u:TT):TT:=λO H Q=>t O H λc H1=>if c=true then Q true H1 else u O H1 Q
def Yu(t:TT):TT:=λO H Q=>t O H λc H1=>Q (!c) H1
theorem Ey(ha:PT X a tA):PW X (.BoolOp .And [a] pos) tA:=by
 intro wh pins s O H Q I h;refine isTrue_and (thn (ha pins s O H Q I h) λc s1 e=>?_);cases c with
 |true=>exact isTrue_and_nil e
 |false=>exact e
theorem zy(ha:PT X a tA):PW X (.BoolOp .Or [a] pos) tA:=by
 intro wh pins s O H Q I h;refine isTrue_or (thn (ha pins s O H Q I h) λc s1 e=>?_);cases c with
 |false=>exact isTrue_or_nil e
 |true=>exact e
theorem Kp(ha:PT X a tA)(hb:PW X (.BoolOp .And (b::rest) pos) tB'):PW X (.BoolOp .And (a::b::rest) pos) (Yt tA tB'):=by
 intro wh pins s O H Q I h;refine isTrue_and (thn (ha pins s O H _ I h) ?_);rintro c s1 ⟨H1,I1,q1⟩;cases c with
 |true=>exact hb wh pins s1 O H1 Q I1 q1
 |false=>exact⟨H1,I1,q1⟩
theorem uU(ha:PT X a tA)(hb:PW X (.BoolOp .Or (b::rest) pos) tB'):PW X (.BoolOp .Or (a::b::rest) pos) (tOr tA tB'):=by
 intro wh pins s O H Q I h;refine isTrue_or (thn (ha pins s O H _ I h) ?_);rintro c s1 ⟨H1,I1,q1⟩;cases c with
 |true=>exact⟨H1,I1,q1⟩
 |false=>exact hb wh pins s1 O H1 Q I1 q1
theorem zA(ha:PT X a tA):PT X (.UnaryOp .Not a pos) (Yu tA):=by
 intro pins s O H Q I h;exact isTrue_not (ha pins s O H (λc H1=>Q (!c) H1) I h)
def VN(ta tb:TE):TE:=λO H Q=>ta O H λx H1=>∃ c,x=.bl c/\if c=true then tb O H1 Q else Q (.bl false) H1
def VP(ta:TE):TE:=λO H Q=>ta O H λx H1=>∃ c,x=.bl c/\Q (.bl (!c)) H1
theorem Kq{op}{t:TE}(h:PE X a t):PE X (.BoolOp op [a] pos) t:=λpins s O H Q I hw=>BoolOp_one (h pins s O H Q I hw)
theorem Ez(ha:PE X a ta)(hb:PE X (.BoolOp .And (b::rest) pos) tb):PE X (.BoolOp .And (a::b::rest) pos) (VN ta tb):=by
 intro pins s O H Q I h;refine BoolOp_and (thn (ha pins s O H _ I h) ?_);rintro v s1 ⟨x,H1,I1,r1,q1⟩;obtain⟨c,rfl,q1⟩:=q1;cases r1;refine wpAny_truthy_bool ?_;cases c with
 |true=>exact hb pins s1 O H1 Q I1 q1
 |false=>exact⟨.bl false,H1,I1,rfl,q1⟩
theorem WR(ha:PE X a ta):PE X (.UnaryOp .Not a pos) (VP ta):=by
 intro pins s O H Q I h;refine UnaryOp_ (thn (ha pins s O H _ I h) ?_);rintro v s1 ⟨x,H1,I1,r1,q1⟩;obtain⟨c,rfl,q1⟩:=q1;cases r1;exact not_of (wpAny_truthy_bool ⟨.bl (!c),H1,I1,rfl,q1⟩)
def tIf(t:TT)(ta tb:TE):TE:=λO H Q=>t O H λc H1=>if c=true then ta O H1 Q else tb O H1 Q
theorem Hs{c:Expr}(hc:PT X c tA)(ha:PE X a ta)(hb:PE X b tb):PE X (.IfExp c a b pos) (tIf tA ta tb):=by
 intro pins s O H Q I h;refine wpAny_IfExp (thn (hc pins s O H _ I h) ?_);rintro d s1 ⟨H1,I1,q1⟩;cases d with
 |true=>exact ha pins s1 O H1 Q I1 q1
 |false=>exact hb pins s1 O H1 Q I1 q1
end
def SqL(K:Frag)(H:Hp)(a:Addr)(xs:List V):Prop:=
 Rd H a (.lst xs) \/
  ∃ (o:Obj) (its:Array Value) (n:Nat),K.lookup a=some o/\o.cls=.type "list"/\o.dict=none/\o.data=.seq its n/\its.size<=sizeLine/\Vals xs its.toList
def SqT(K:Frag)(H:Hp)(a:Addr)(xs:List V):Prop:=
 Rd H a (.tup xs) \/
  ∃ (o:Obj) (its:Array Value) (n:Nat),K.lookup a=some o/\o.cls=.type "tuple"/\o.data=.seq its n/\its.size<=sizeLine/\Vals xs its.toList
def ZD:Value->Option V
 |.none=>some .non
 |.bool b=>some (.bl b)
 |.int i _=>some (.int i)
 |.str x _=>some (.str x)
 |.bytes b _=>some (.byt b)
 |.float b _=>some (.flt b)
 |.ref a=>some (.ref a)
 |.type n=>some (.ty n)
 |_=>none
theorem RelV.abs{x:V}{u:Value}(r:RelV x u):ZD u=some x:=by
 cases x with
 |non=>cases r;rfl
 |bl _=>cases r;rfl
 |int _=>obtain⟨t,rfl⟩:=r;rfl
 |str _=>obtain⟨t,rfl⟩:=r;rfl
 |byt _=>obtain⟨t,rfl⟩:=r;rfl
 |flt _=>obtain⟨t,rfl⟩:=r;rfl
 |ref _=>cases r;rfl
 |ty _=>cases r;rfl
theorem RelV.inj{x y:V}{u:Value}(r:RelV x u)(q:RelV y u):x=y:=Zaf (r.abs.symm.trans q.abs)
theorem Vals.inj:∀ {xs ys:List V}{us:List Value},Vals xs us->Vals ys us->xs=ys
 |_,_,_,.nil,.nil=>rfl
 |_,_,_,.cons r t,.cons r' t'=>by rw[r.inj r',Vals.inj t t']
section
variable{X:Cx}{pins:List (Addr×Obj)}{O:St}{H:Hp}{s:Shared}{a:Addr}{xs ys:List V}
theorem SqL.of{K:Frag}(h:H a=some (.lst xs)):SqL K H a xs:=.inl (.inl h)
theorem SqT.of{K:Frag}(h:H a=some (.tup xs)):SqT K H a xs:=.inl (.inl h)
theorem Inv.list(I:Inv X pins O H s)(h:SqL X.K H a xs):∃ its:List Value,Vals xs its/\PlainL s.heap a its.toArray/\xs.length<=sizeLine:=by
 rcases h with h|⟨o,its,n,hk,hc,hd,hs,hz,r⟩
 ·obtain⟨z,its,n,r,e⟩:=h.ok I.hok;exact⟨its,r,⟨_,n,e,rfl,rfl,rfl⟩,z⟩
 ·refine⟨its.toList,r,⟨o,n,I.kIn a o hk,hc,hd,by simpa using hs⟩,?_⟩
  have e:=r.length;simp only[ZaR] at e;lia
theorem Inv.tuple(I:Inv X pins O H s)(h:SqT X.K H a xs):∃ its:List Value,Vals xs its/\IsTup s.heap a its.toArray/\xs.length<=sizeLine:=by
 rcases h with h|⟨o,its,n,hk,hc,hs,hz,r⟩
 ·obtain⟨z,its,r,p⟩:=h.ok I.hok;exact⟨its,r,p.1,z⟩
 ·refine⟨its.toList,r,⟨o,I.kIn a o hk,hc,n,by simpa using hs⟩,?_⟩
  have e:=r.length;simp only[ZaR] at e;omega
theorem Inv.qi(I:Inv X pins O H s)(h:SqL X.K H a xs)(h':SqL X.K H a ys):xs=ys:=by
 obtain⟨its,r,⟨o,n,e,_,_,d⟩,_⟩:=I.list h;obtain⟨its',r',⟨o',n',e',_,_,d'⟩,_⟩:=I.list h';rw[e] at e';cases e';rw[d] at d';injection d' with d1 _
 have:its=its':=by simpa using ZaY Array.toList d1
 subst this;exact r.inj r'
theorem Inv.Di(I:Inv X pins O H s)(h:SqT X.K H a xs)(h':SqT X.K H a ys):xs=ys:=by
 obtain⟨its,r,⟨o,e,_,n,d⟩,_⟩:=I.tuple h;obtain⟨its',r',⟨o',e',_,n',d'⟩,_⟩:=I.tuple h';rw[e] at e';cases e';rw[d] at d';injection d' with d1 _
 have:its=its':=by simpa using ZaY Array.toList d1
 subst this;exact r.inj r'
end
noncomputable abbrev Cx.wish(X:Cx)(E:Value->Shared->Prop):Cx:={ X with xe:=E }
noncomputable abbrev Cx.nox(X:Cx):Cx:=X.wish λ_ _=>False
theorem Cx.Ok.wish{X:Cx}(ok:X.Ok)(E:Value->Shared->Prop):(X.wish E).Ok:=
 ⟨ok.mod,ok.kind,ok.glob,ok.blt,ok.above,ok.inj,ok.has,ok.cab,ok.hd,ok.frames,ok.stk,ok.exf,ok.bs,ok.bsz,ok.noex,ok.exfs,ok.xu,ok.frf⟩
theorem Cx.Ok.nG{X:Cx}{E:Value->Shared->Prop}(ok:(X.wish E).Ok):X.Ok:=
 ⟨ok.mod,ok.kind,ok.glob,ok.blt,ok.above,ok.inj,ok.has,ok.cab,ok.hd,ok.frames,ok.stk,ok.exf,ok.bs,ok.bsz,ok.noex,ok.exfs,ok.xu,ok.frf⟩
section
variable{X:Cx}{pins:List (Addr×Obj)}{O:St}{H:Hp}{s:Shared}{E:Value->Shared->Prop}
theorem Inv.wish(I:Inv X pins O H s)(E:Value->Shared->Prop):Inv (X.wish E) pins O H s:=⟨I.ok.wish E,I.os,I.bare,I.base,I.loc,I.cell,I.free,I.freeC,I.pin,I.hok,I.len⟩
theorem Inv.nG(I:Inv (X.wish E) pins O H s):Inv X pins O H s:=⟨I.ok.nG,I.os,I.bare,I.base,I.loc,I.cell,I.free,I.freeC,I.pin,I.hok,I.len⟩
theorem SP.nG{D:Ends}{f:Flow}{s':Shared}(h:SP (X.wish E) pins D f s'):SP X pins D f s':=by
 cases f with
 |next=>obtain⟨O',H',I,q⟩:=h;exact⟨O',H',I.nG,q⟩
 |brk=>obtain⟨O',H',I,q⟩:=h;exact⟨O',H',I.nG,q⟩
 |cont=>obtain⟨O',H',I,q⟩:=h;exact⟨O',H',I.nG,q⟩
 |ret u=>obtain⟨v,O',H',I,r,q⟩:=h;exact⟨v,O',H',I.nG,r,q⟩
theorem PE.nox{e:Expr}{t:TE}(h:PE X.nox e t):PE X e t:=λpins s O H Q I hw=>
 Zbk (h pins s O H Q (I.wish _) hw) (λ_ _ ⟨v,H',I',r,q⟩=>⟨v,H',I'.nG,r,q⟩) λ_ _ z=>False.elim z
theorem PT.nox{e:Expr}{t:TT}(h:PT X.nox e t):PT X e t:=λpins s O H Q I hw=>
 Zbk (h pins s O H Q (I.wish _) hw) (λ_ _ ⟨H',I',q⟩=>⟨H',I'.nG,q⟩) λ_ _ z=>False.elim z
theorem PSs.nox{st:List Stmt}{t:TS}(h:PSs X.nox st t):PSs X st t:=λpins s O H D I hw=>
 Zbk (h pins s O H D (I.wish _) hw) (λ_ _ q=>q.nG) λ_ _ z=>False.elim z
end
section
variable{X:Cx}{st:Stmt}{rest:List Stmt}{t u:TS}{e:Expr}{te:TE}{pos:Pos}
def VR:TS:=λD O H=>D.nx O H
def WT(t u:TS):TS:=λD O H=>t { D with nx:=u D } O H
theorem cU:PSs X [] VR:=λ_ _ O H _ I h=>wpAny_execs_nil ⟨O,H,I,h⟩
theorem aq(h1:PS X st t)(h2:PSs X rest u):PSs X (st::rest) (WT t u):=by
 intro pins s O H D I h;refine wpAny_execs_cons (thn (h1 pins s O H { D with nx:=u D } I h) λf s1 q=>?_);cases f with
 |next=>
  obtain⟨O',H',I',q⟩:=q;exact h2 pins s1 O' H' D I' q
 |ret v=>exact q
 |brk=>exact q
 |cont=>exact q
theorem aO(h1:PS X st t):PSs X [st] t:=by
 intro pins s O H D I h;refine wpAny_execs_cons (thn (h1 pins s O H D I h) λf s1 q=>?_);cases f with
 |next=>exact wpAny_execs_nil q
 |ret v=>exact q
 |brk=>exact q
 |cont=>exact q
def V0:TS:=λD O H=>D.ct O H
theorem ym:PS X (.Continue pos) V0:=λ_ _ O H _ I h=>wpAny_Continue ⟨O,H,I,h⟩
theorem Inv.quiet{pins:List (Addr×Obj)}{O:St}{H:Hp}{s:Shared}(I:Inv X pins O H s):interactive X.env=false:=by simp[interactive,I.ok.kind]
def zB(te:TE):TS:=λD O H=>te O H λ_ H1=>D.nx O H1
theorem jM(he:PE X e te)(hs:swapsWith e none pos.line X.env=pure false:=by rfl):PS X (.Expr e pos) (zB te):=by
 intro pins s O H D I h;exact wpAny_Expr_any (thn (he pins s O H _ I h) λv s1 ⟨x,H1,I1,r1,q1⟩=>⟨O,H1,I1,q1⟩) I.quiet hs
def Ot(te:TE):TS:=λD O H=>te O H D.rt
theorem bA(he:PE X e te):PS X (.Return (some e) pos) (Ot te):=by
 intro pins s O H D I h;exact wpAny_Return_some (thn (he pins s O H _ I h) λv s1 ⟨x,H1,I1,r1,q1⟩=>⟨x,O,H1,I1,r1,q1⟩)
def Yv(c:TT)(t u:TS):TS:=λD O H=>c O H λb H1=>if b=true then t D O H1 else u D O H1
theorem gM{c:Expr}{a b:List Stmt}{tc:TT}(hc:PT X c tc)(ha:PSs X a t)(hb:PSs X b u):PS X (.If c a b pos) (Yv tc t u):=by
 intro pins s O H D I h;refine wpAny_If (thn (hc pins s O H _ I h) ?_);rintro d s1 ⟨H1,I1,q1⟩;cases d with
 |true=>exact ha pins s1 O H1 D I1 q1
 |false=>exact hb pins s1 O H1 D I1 q1
def QB:TS:=λ_ _ _=>False
theorem QC:PS X st QB:=λ_ _ _ _ _ _ h=>h.elim
end
noncomputable abbrev TG:=V->St->Hp->(St->Hp->Prop)->Prop
noncomputable abbrev TGs:=List V->St->Hp->(St->Hp->Prop)->Prop
def PG(X:Cx)(target:Expr)(t:TG):Prop:=
 ∀ (pins:List (Addr×Obj)) (s:Shared) (O:St) (H:Hp) (v:V) (u:Value) (Q:St->Hp->Prop),Inv X pins O H s->RelV v u->t v O H Q ->
  wpAny (model X.prog X.w) X.A (assign target X.env u) (λ_ s'=>∃ O' H',Inv X pins O' H' s'/\Q O' H') X.xe s
def PGs(X:Cx)(ts:List Expr)(t:TGs):Prop:=
 ∀ (pins:List (Addr×Obj)) (s:Shared) (O:St) (H:Hp) (vs:List V) (us:List Value) (Q:St->Hp->Prop),Inv X pins O H s->Vals vs us->t vs O H Q ->
  wpAny (model X.prog X.w) X.A (assignInOrder ((assignEach ts X.env).map (·.2)) us) (λ_ s'=>∃ O' H',Inv X pins O' H' s'/\Q O' H') X.xe s
section
variable{X:Cx}{pos:Pos}
def yo(i:Nat):TG:=λv O H Q=>Q (O.set i (some v)) H
theorem cZ{i:Nat}{x:Str}(hN:X.N.Nodup)(hi:X.N[i]?=some x)(hx:Loc X.env.scope x)(hf:X.fn x=true\/X.env.scope.names.lookup x=some .local:=by first|exact .inl rfl|exact .inr rfl|assumption):PG X (.Name x pos) (yo i):=by
 intro pins s O H v u Q I r h;exact wpAny_assign_Name (Hq I hN hi hx r (λs' I'=>⟨_,H,I',h⟩) hf)
def QD:TGs:=λvs O H Q=>vs=[]/\Q O H
def V1(t:TG)(u:TGs):TGs:=λvs O H Q=>∃ v r,vs=v::r/\t v O H λO' H'=>u r O' H' Q
theorem oW:PGs X [] QD:=by
 intro pins s O H vs us Q I r h;obtain⟨e,h⟩:=h;subst e;cases r;exact assignInOrder_nil ⟨O,H,I,h⟩
theorem dR{e:Expr}{es:List Expr}{t:TG}{u:TGs}(h1:PG X e t)(h2:PGs X es u)
  (hs:(assignEach (e::es) X.env).map (·.2)=assign e X.env::(assignEach es X.env).map (·.2):=by rfl):PGs X (e::es) (V1 t u):=by
 intro pins s O H vs us Q I r h;obtain⟨v,vr,e1,h⟩:=h;subst e1;cases r with
 |cons r rr=>
  rw[hs];refine assignInOrder_cons (thn (h1 pins s O H _ _ _ I r h) ?_);rintro _ s1 ⟨σ1,H1,I1,q1⟩;exact h2 pins s1 σ1 H1 _ _ Q I1 rr q1
def WW(K:Frag)(n:Nat)(t:TGs):TG:=λv O H Q=>∃ a xs,v=.ref a/\SqT K H a xs/\xs.length=n/\t xs O H Q
theorem Kr{es:List Expr}{k:Nat}{t:TGs}{n:Nat}(hc:X.calm=true)(h:PGs X es t)
  (hn:(assignEach es X.env).length=n:=by rfl)(hst:(assignEach es X.env).findIdx? (·.1)=none:=by rfl):PG X (.Tuple es k pos) (WW X.K n t):=by
 intro pins s O H v u Q I r hw;obtain⟨a,xs,e1,hq,hl,hw⟩:=hw;subst e1;cases r;obtain⟨its,rv,ht,hz⟩:=I.tuple hq;refine assign_Tuple_tuple (I.ok.hd hc) ht (by simp[hn,<-hl,rv.length]) hst λh' hx=>?_
 have I1:Inv X pins O H { s with heap:=h' }:=I.kept (t':=s.toks) λb o e=>hx b o (ZaE (Zau e)) e;exact h pins _ O H xs _ Q I1 (by simpa using rv) hw
def Ou(te:TE)(g:TG):TS:=λD O H=>te O H λx H1=>g x O H1 D.nx
theorem aR{i:Nat}{x:Str}{e:Expr}{te:TE}{pos':Pos}(hN:X.N.Nodup)(hi:X.N[i]?=some x)(hx:Loc X.env.scope x)(he:PE X e te)(hs:swapsWith e (some (.Name x pos')) pos.line X.env=pure false:=by rfl)(hf:X.fn x=true\/X.env.scope.names.lookup x=some .local:=by first|exact .inl rfl|exact .inr rfl|assumption) :
  PS X (.Assign [.Name x pos'] e pos) (Ou te (yo i)):=by
 intro pins s O H D I h;refine wpAny_Assign_Name (thn (he pins s O H _ I h) ?_) hs;rintro v s1 ⟨y,H1,I1,r1,q1⟩;exact Hq I1 hN hi hx r1 (λs2 I2=>⟨_,H1,I2,q1⟩) hf
end
section
variable{X:Cx}{pos:Pos}
def Ks(c:TT)(tb:TS):TS:=λD O H=>∃ W:Nat->St->Hp->Prop,(∃ m,W m O H)/\∀ m O H,W m O H ->
 c O H λb H1=>if b=true then ∃ N:St->Hp->Prop,(∀ O' H',N O' H'->∃ m',m'<m/\W m' O' H')/\tb { D with nx:=N,ct:=N,bk:=D.nx } O H1 else D.nx O H1
theorem qj{c:Expr}{body:List Stmt}{tc:TT}{tb:TS}(hp:PassesOwn (model X.prog X.w) X.A X.env X.xe)(hc:PT X c tc)(hb:PSs X body tb):PS X (.While c body [] pos) (Ks tc tb):=by
 intro pins s O H D I h;obtain⟨W,⟨m0,w0⟩,turn⟩:=h;refine wpAny_While (codeAny_whileLoop (λn s'=>∃ O' H',Inv X pins O' H' s'/\W n O' H') ?_ m0 ⟨O,H,I,w0⟩);rintro n s1 ⟨σ1,H1,I1,w1⟩;refine wpAny_passesOwn hp (thn (hc pins s1 σ1 H1 _ I1 (turn n σ1 H1 w1)) ?_);rintro b s2 ⟨H2,I2,q2⟩;cases b with
 |true=>
  obtain⟨N,hN,q2⟩:=q2;rw[Zam rfl];refine wpAny_passesOwn hp (thn (hb pins s2 σ1 H2 _ I2 q2) λf s3 q3=>?_);cases f with
  |next=>
   obtain⟨σ3,H3,I3,n3⟩:=q3;obtain⟨m',hm,w3⟩:=hN σ3 H3 n3;exact⟨m',hm,σ3,H3,I3,w3⟩
  |cont=>
   obtain⟨σ3,H3,I3,n3⟩:=q3;obtain⟨m',hm,w3⟩:=hN σ3 H3 n3;exact⟨m',hm,σ3,H3,I3,w3⟩
  |brk=>exact q3
  |ret v=>exact q3
 |false=>
  rw[Zal Zbe];exact wpAny_execs_nil ⟨σ1,H2,I2,q2⟩
end
structure It where
 go:Nat->Hp->Prop
 yld:Nat->Hp->V->Hp->Prop
 stop:Nat->Hp->Prop
def zE(X:Cx)(pins:List (Addr×Obj))(H:Hp)(b:Addr):Prop:=
 H b=none/\b≠X.env.locals/\b ∉ X.fs/\(b∈X.ex\/X.s₀.heap.objs.size<=b)/\(∀ x c,X.env.cells.lookup x=some c->c≠b)/\∀ p∈X.pn++pins,p.1≠b
theorem Inv.Cv{X:Cx}{pins:List (Addr×Obj)}{O:St}{H H':Hp}{s:Shared}{b:Addr}(I:Inv X pins O H s)(hb:s.heap.objs.size<=b)(hn:H' b=none):zE X pins H' b:=by
 refine⟨hn,Zb4 (ZaG I.lt hb),I.ZC hb,.inr (ZaI I.sz hb),λx c e z=>?_,λp hp z=>?_⟩
 ·obtain⟨v,q⟩:=I.cell x c e;exact absurd (ZaG q.lt (by rw[z];exact hb)) (ZbU _)
 ·exact absurd (ZaG (Zau (I.pin p hp).1) (by rw[z];exact hb)) (ZbU _)
structure Turn(P:Program)(w:World)(K:Frag)(tg:Expr)(J:It)(fp:List Addr)(it:Addr)(tn:Nat->Heap->Prop):Prop where
 mem:it∈fp
 obj:∀ i h,tn i h->∀ b∈fp,∃ o,h.get? b=some o/\∀ v,o.data≠.cell v
 keep:∀ i h h',tn i h->(∀ b∈fp,∀ o,h.get? b=some o->h'.get? b=some o)->tn i h'
 item:∀ (X:Cx),X.prog=P->X.w=w->X.K=K->X.calm=true->∀ (i:Nat) (pins:List (Addr×Obj)) (s:Shared) (O:St) (H:Hp) (E:Value->Shared->Prop),Inv X pins O H s->(∀ b∈fp,zE X pins H b)->tn i s.heap->J.go i H ->
  wpAny (model P w) X.A (pyNext (.ref it)) (λr s1=>∃ u,r=some u /\
   wpAny (model P w) X.A (letOwnedTupleGo tg (.ref it) u) (λ_ s2=>∃ x H',Inv X pins O H' s2/\RelV x u/\J.yld i H x H'/\tn (i+1) s2.heap/\∀ b∈fp,H' b=none) E s1) E s
 done:∀ (X:Cx),X.prog=P->X.w=w->X.K=K->X.calm=true->∀ (i:Nat) (pins:List (Addr×Obj)) (s:Shared) (O:St) (H:Hp) (E:Value->Shared->Prop),Inv X pins O H s->(∀ b∈fp,zE X pins H b)->tn i s.heap->J.stop i H ->
  wpAny (model P w) X.A (pyNext (.ref it)) (λr s1=>r=none/\Inv X pins O H s1) E s
 self:∀ (A:Around) (i:Nat) (s:Shared) (Q:Value->Shared->Prop) (E:Value->Shared->Prop),tn i s.heap->Q (.ref it) s->wpAny (model P w) A (pyIter (.ref it)) Q E s
noncomputable abbrev TI:=St->Hp->(It->Hp->Prop)->Prop
def PIE(X:Cx)(pins:List (Addr×Obj))(O:St)(tg:Expr)(R:It->Hp->Prop)(itv:Value)(s2:Shared):Prop:=
 ∃ (it:Addr) (fp:List Addr) (tn:Nat->Heap->Prop) (J:It) (H':Hp),itv=.ref it/\Inv X pins O H' s2/\Turn X.prog X.w X.K tg J fp it tn/\tn 0 s2.heap/\(∀ b∈fp,zE X pins H' b)/\R J H'
def PI(X:Cx)(tg iter:Expr)(wi:TI):Prop:=
 ∀ (pins:List (Addr×Obj)) (s:Shared) (O:St) (H:Hp) (R:It->Hp->Prop),Inv X pins O H s->wi O H R ->
  wpAny (model X.prog X.w) X.A (eval iter X.env) (λv s1=>wpAny (model X.prog X.w) X.A (pyIter v) (PIE X pins O tg R) X.xe s1) X.xe s
theorem Dj{M:Model}{A:Around}{E:Value->Shared->Prop}{s:Shared}{tg:Expr}{it:Addr}{u:Value}{o:Obj}{n:String}{vs:Array Value}{Q:Unit->Shared->Prop}(ho:s.heap.get? it=some o)(hc:o.cls=.type n)(hd:o.data=.fields vs)
  (hn:["enumerate","zip","dict_itemiterator","dict_reverseitemiterator","odict_iterator","itertools.zip_longest","itertools.pairwise"].contains n=false)(hQ:Q () s):wpAny M A (letOwnedTupleGo tg (.ref it) u) Q E s:=by
 unfold letOwnedTupleGo;cases tg<;>first
  |exact Zah hQ
  |(cases u<;>first
    |exact Zah hQ
    |(refine Zaa (wpAny_load ho ?_)
      rw[hc,hd];show wpAny M A (if(["enumerate","zip","dict_itemiterator","dict_reverseitemiterator","odict_iterator","itertools.zip_longest","itertools.pairwise"].contains n&&vs[0]?==some (rawInt _))=true then _ else _) Q E s
      rw[Zal (by intro h;rw[hn,Bool.false_and] at h;cases h)]
      exact Zah hQ))
def Itl(K:Frag)(a:Addr):It:=
 ⟨λi H=>∃ xs x,SqL K H a xs/\xs[i]?=some x,λi H x H'=>H'=H/\∀ xs,SqL K H a xs->xs[i]?=some x,λi H=>∃ xs,SqL K H a xs/\xs.length<=i⟩
def Itt(K:Frag)(a:Addr):It:=
 ⟨λi H=>∃ xs x,SqT K H a xs/\xs[i]?=some x,λi H x H'=>H'=H/\∀ xs,SqT K H a xs->xs[i]?=some x,λi H=>∃ xs,SqT K H a xs/\xs.length<=i⟩
def Itr(lo:Int)(n:Nat):It:=⟨λi _=>i<n,λi H x H'=>H'=H/\x=.int (lo+i),λi _=>n<=i⟩
theorem Ov{P:Program}{w:World}{K:Frag}{tg:Expr}(a it:Addr):Turn P w K tg (Itl K a) [it] it (λi h=>h.IsListIter it a i) where
 mem:=by simp
 obj:=λi h st b hb=>by
  have e:b=it:=by simpa using hb
  subst e;obtain⟨o,e,c,d⟩:=st;exact⟨o,e,λv z=>by rw[d] at z;cases z⟩
 keep:=λi h h' st k=>st.at λo e=>k it (by simp) o e
 item:=by
  intro X hP hw hK hc i pins s O H E I hf st hg;subst hP hw hK;obtain⟨xs,x,hq,hx⟩:=hg;obtain⟨its,rv,p,hz⟩:=I.list hq;obtain⟨u,hu,ru⟩:=rv.get hx;obtain⟨f0,f1,f2,f3,f4,f5⟩:=hf it (by simp)
  refine wpAny_pyNext_list_item st p.isList (x:=u) (by simpa using hu) λh' st' sb=>?_
  have I1:Inv X pins O H { s with heap:=h' }:=I.turned (t':=s.toks) (λb o hb e=>(sb.2 b hb).trans e) f0 f1 f3 f4 f5;obtain⟨o,e,c,d⟩:=id st';exact⟨u,rfl,Dj (s:={ s with heap:=h' }) e c d (by decide) ⟨x,H,I1,ru,⟨rfl,λys hy=>by rw[I.qi hy hq];exact hx⟩,st',λb hb=>(hf b hb).1⟩⟩
 done:=by
  intro X hP hw hK hc i pins s O H E I hf st hg;subst hP hw hK;obtain⟨xs,hq,hx⟩:=hg;obtain⟨its,rv,p,hz⟩:=I.list hq;obtain⟨f0,f1,f2,f3,f4,f5⟩:=hf it (by simp)
  have hl:=rv.length;exact wpAny_pyNext_list_end (I.ok.hd hc) st p.isList (by simp;lia) λh' eb=>⟨rfl,I.turned (t':=s.toks) (λb o hb e=>eb b o hb e) f0 f1 f3 f4 f5⟩
 self:=λ_ _ _ _ _ st h=>wpAny_pyIter_listiter st h
theorem Ku{P:Program}{w:World}{K:Frag}{tg:Expr}(a it:Addr):Turn P w K tg (Itt K a) [it] it (λi h=>h.IsTupleIter it a i) where
 mem:=by simp
 obj:=λi h st b hb=>by
  have e:b=it:=by simpa using hb
  subst e;obtain⟨o,e,c,d⟩:=st;exact⟨o,e,λv z=>by rw[d] at z;cases z⟩
 keep:=λi h h' st k=>st.at λo e=>k it (by simp) o e
 item:=by
  intro X hP hw hK hc i pins s O H E I hf st hg;subst hP hw hK;obtain⟨xs,x,hq,hx⟩:=hg;obtain⟨its,rv,p,hz⟩:=I.tuple hq;obtain⟨u,hu,ru⟩:=rv.get hx;obtain⟨f0,f1,f2,f3,f4,f5⟩:=hf it (by simp)
  refine wpAny_pyNext_tuple_item st (show s.heap.IsTuple a its.toArray from p) (x:=u) (by simpa using hu) λh' st' sb=>?_
  have I1:Inv X pins O H { s with heap:=h' }:=I.turned (t':=s.toks) (λb o hb e=>(sb.2 b hb).trans e) f0 f1 f3 f4 f5;obtain⟨o,e,c,d⟩:=id st';exact⟨u,rfl,Dj (s:={ s with heap:=h' }) e c d (by decide) ⟨x,H,I1,ru,⟨rfl,λys hy=>by rw[I.Di hy hq];exact hx⟩,st',λb hb=>(hf b hb).1⟩⟩
 done:=by
  intro X hP hw hK hc i pins s O H E I hf st hg;subst hP hw hK;obtain⟨xs,hq,hx⟩:=hg;obtain⟨its,rv,p,hz⟩:=I.tuple hq;obtain⟨f0,f1,f2,f3,f4,f5⟩:=hf it (by simp)
  have hl:=rv.length;exact wpAny_pyNext_tuple_end (I.ok.hd hc) st (show s.heap.IsTuple a its.toArray from p) (by simp;omega) λh' eb=>⟨rfl,I.turned (t':=s.toks) (λb o hb e=>eb b o hb e) f0 f1 f3 f4 f5⟩
 self:=λ_ _ _ _ _ st h=>wpAny_pyIter_tupleiter st h
theorem Kv{P:Program}{w:World}{K:Frag}{tg:Expr}(it:Addr)(lo:Int)(n:Nat):Turn P w K tg (Itr lo n) [it] it (λi h=>IsRangeIter h it (lo+(i:Nat)*1) ((n:Int)-(i:Nat)) 1) where
 mem:=by simp
 obj:=λi h st b hb=>by
  have e:b=it:=by simpa using hb
  subst e;exact⟨_,st,λv z=>by
   have z':Data.fields _=Data.cell v:=z;cases z'⟩
 keep:=λi h h' st k=>k it (by simp) _ st
 item:=by
  intro X hP hw hK hc i pins s O H E I hf st hg;subst hP hw hK;obtain⟨f0,f1,f2,f3,f4,f5⟩:=hf it (by simp)
  have W:=Walks.range (prog:=X.prog) (w:=X.w) (I.ok.hd hc) it lo 1 n;refine W.item i s _ _ hg st λv h' tk hv st' kk=>?_;obtain⟨t,rfl⟩:=hv;have I1:Inv X pins O H { s with heap:=h',toks:=tk }:=I.turned (λb o hb e=>kk b o (by simpa using hb) e) f0 f1 f3 f4 f5
  refine⟨_,rfl,Dj (s:={ s with heap:=h',toks:=tk }) (n:="range_iterator") st' rfl rfl (by decide) ⟨.int (lo+i),H,I1,⟨t,?_⟩,⟨rfl,rfl⟩,st',λb hb=>(hf b hb).1⟩⟩
  rw[Int.mul_one]
 done:=by
  intro X hP hw hK hc i pins s O H E I hf st hg;subst hP hw hK;obtain⟨f0,f1,f2,f3,f4,f5⟩:=hf it (by simp)
  exact wpAny_pyNext_range_end (I.ok.hd hc) st (by have:n<=i:=hg;omega) λh' eb=>⟨rfl,I.turned (t':=s.toks) (λb o hb e=>eb b o hb e) f0 f1 f3 f4 f5⟩
 self:=λ_ _ _ _ _ st h=>wpAny_pyIter_rangeiter st h
section
variable{X:Cx}{tg:Expr}
theorem Ht{pins:List (Addr×Obj)}{O:St}{H:Hp}{s:Shared}{R:It->Hp->Prop}{E:Value->Shared->Prop}{lo hi:Int}{t u v:Tok}{tk:Nat}(I:Inv X pins O H s)(h1:-(2^62)<=lo)(h2:lo<2^62)(h3:-(2^62)<=hi)(h4:hi<2^62)
  (q:R (Itr lo (hi-lo).toNat) H):wpAny (model X.prog X.w) X.A (pyIter (.ref s.heap.objs.size)) (PIE X pins O tg R) E { s with heap:=s.heap.push { cls:=.type "range",data:=.fields #[.int lo t,.int hi u,.int 1 v] },toks:=tk }:=by
 refine wpAny_pyIter_range (IsRange.new ..) (small_one h1 h2 h3 h4) ?_;have I1:Inv X pins O H { s with heap:=s.heap.push { cls:=.type "range",data:=.fields #[.int lo t,.int hi u,.int 1 v] },toks:=tk }:=I.kept λb o e=>Zaj _ e;refine⟨(s.heap.push { cls:=.type "range",data:=.fields #[.int lo t,.int hi u,.int 1 v] }).objs.size,[(s.heap.push { cls:=.type "range",data:=.fields #[.int lo t,.int hi u,.int 1 v] }).objs.size],_,_,H,rfl,
  I1.kept (t':=tk) λb o e=>Zaj _ e,Kv _ lo (hi-lo).toNat,?_,λb hb=>?_,q⟩
 ·have e1:lo+((0:Nat):Int)*1=lo:=by simp
  have e2:(((hi-lo).toNat:Nat):Int)-((0:Nat):Int)=Builtin.Range.rangeSize lo hi 1:=by rw[rangeSize_one];split<;>omega
  show IsRangeIter _ _ (lo+((0:Nat):Int)*1) ((((hi-lo).toNat:Nat):Int)-((0:Nat):Int)) 1
  rw[e1,e2];exact Zar _ rfl
 ·have e:b=(s.heap.push { cls:=.type "range",data:=.fields #[.int lo t,.int hi u,.int 1 v] }).objs.size:=by simpa using hb
  subst e;exact I1.Cv (Zan _) (I1.hok.fresh (Zan _))
def V2(ta:TA):TI:=λO H R=>ta O H λvs H1=>∃ j:Int,vs=[.int j]/\-(2^62)<=j/\j<2^62/\R (Itr 0 j.toNat) H1
def V3(ta:TA):TI:=λO H R=>ta O H λvs H1=>∃ i j:Int,vs=[.int i,.int j]/\(-(2^62)<=i/\i<2^62/\-(2^62)<=j/\j<2^62)/\R (Itr i (j-i).toNat) H1
theorem iQ{a:Expr}{ta:TA}{p pos:Pos}(hg:Gl X "range")(hm:X.mg "range"=none)(ha:PA X [a] ta)(hs:starEach [a] X.env=[(false,eval a X.env)]:=by rfl):PI X tg (.Call (.Name "range" p) [a] [] pos) (V2 ta):=by
 intro pins s O H R I h;refine Call_ (ue I hg hm boot_range (Zbr (thn (ha pos pins s O H _ I h) ?_) hs rfl));rintro us s1 ⟨vs,H1,I1,r1,q1⟩;obtain⟨j,e,q1,q2,q⟩:=q1;subst e;cases r1 with
 |cons r rr=>
  cases rr;obtain⟨t,rfl⟩:=r;exact call_range_1 (Ht I1 (by omega) (by omega) q1 q2 (by simpa using q))
theorem Dk{a b:Expr}{ta:TA}{p pos:Pos}(hg:Gl X "range")(hm:X.mg "range"=none)(ha:PA X [a,b] ta)(hs:starEach [a,b] X.env=[(false,eval a X.env),(false,eval b X.env)]:=by rfl)(hs2:starEach [b] X.env=[(false,eval b X.env)]:=by rfl) :
  PI X tg (.Call (.Name "range" p) [a,b] [] pos) (V3 ta):=by
 intro pins s O H R I h;refine Call_ (ue I hg hm boot_range (Zbr (thn (ha pos pins s O H _ I h) ?_) (by rw[hs,hs2]) (by rw[hs2];rfl)))
 rintro us s1 ⟨vs,H1,I1,r1,q1⟩;obtain⟨i,j,e,⟨q1,q2,q3,q4⟩,q⟩:=q1;subst e;cases r1 with
 |cons r rr=>
  cases rr with
  |cons r' rr=>
   cases rr;obtain⟨t,rfl⟩:=r;obtain⟨t',rfl⟩:=r';exact call_range_2 (Ht I1 q1 q2 q3 q4 q)
def WX(wi:TI)(g:TG)(tb:TS):TS:=λD O H=>wi O H λJ H1=>∃ W:Nat->Nat->St->Hp->Prop,(∃ m,W 0 m O H1)/\∀ i m O H,W i m O H ->
 (J.stop i H/\D.nx O H)\/(J.go i H/\∃ N:St->Hp->Prop,(∀ O' H',N O' H'->∃ m',m'<m/\W (i+1) m' O' H')/\∀ x H',J.yld i H x H'->g x O H' λσ2 H2=>tb { D with nx:=N,ct:=N,bk:=D.nx } σ2 H2)
def zF(fp:List Addr)(h:Heap):List (Addr×Obj):=fp.filterMap λb=>(h.get? b).map λo=>(b,o)
theorem oX{fp:List Addr}{h:Heap}{b:Addr}{o:Obj}(hb:b∈fp)(e:h.get? b=some o):(b,o)∈zF fp h:=List.mem_filterMap.mpr ⟨b,hb,by rw[e];rfl⟩
theorem Ow{fp:List Addr}{h:Heap}{p:Addr×Obj}(hp:p∈zF fp h):p.1∈fp/\h.get? p.1=some p.2:=by
 obtain⟨b,hb,e⟩:=List.mem_filterMap.mp hp;cases q:h.get? b with
 |none=>rw[q] at e;cases e
 |some o=>
  rw[q] at e;have e':(b,o)=p:=Zaf e;subst e';exact⟨hb,q⟩
theorem Inv.pinned{pins:List (Addr×Obj)}{O:St}{H:Hp}{s:Shared}{fp:List Addr}(I:Inv X pins O H s)(hf:∀ b∈fp,zE X pins H b)(ho:∀ b∈fp,∃ o,s.heap.get? b=some o/\∀ v,o.data≠.cell v):Inv X (pins++zF fp s.heap) O H s:=
 I.Ml λp hp=>(ZaK.mp hp).elim (λz=>I.pin p (ZaJ _ z)) λz=>by
  obtain⟨hb,e⟩:=Ow z;obtain⟨f0,f1,f2,_⟩:=hf p.1 hb;obtain⟨o,e',d⟩:=ho p.1 hb;rw[e] at e';cases e';exact⟨e,f0,f1,f2,d⟩
theorem Inv.uV{pins pl:List (Addr×Obj)}{O:St}{H:Hp}{s:Shared}(I:Inv X (pins++pl) O H s):Inv X pins O H s:=I.Ml λp hp=>I.pin p (ZaJ _ (Zbm _ hp))
theorem gf{iter:Expr}{body:List Stmt}{wi:TI}{g:TG}{tb:TS}{pos:Pos}(hp:PassesOwn (model X.prog X.w) X.A X.env X.xe)(hc:X.calm=true)(hi:PI X tg iter wi)(hg:PG X tg g)(hb:PSs X body tb)
  (hs:∀ x,foldedSetIterable iter X.env x=pure x:=by intro _;rfl):PS X (.For tg iter body [] pos) (WX wi g tb):=by
 intro pins s O H D I h;refine wpAny_For (thn (hi pins s O H _ I h) λv s1 h1=>thn h1 λitv s2 h2=>?_) hs;obtain⟨it,fp,tn,J,H2,e,I2,T,st2,f2,W,⟨m0,w0⟩,turn⟩:=h2;subst e;have stat:∀ {H':Hp},(∀ b∈fp,H' b=none)->∀ b∈fp,zE X pins H' b:=λhn b hb=>⟨hn b hb,(f2 b hb).2⟩;refine codeAny_forLoop_any (λn s'=>∃ i O' H',Inv X pins O' H' s'/\tn i s'.heap/\(∀ b∈fp,H' b=none)/\W i n O' H') ?_ m0 ⟨0,O,H2,I2,st2,λb hb=>(f2 b hb).1,w0⟩;rintro n s3 ⟨i,σ3,H3,I3,st3,fr3,w3⟩;rcases turn i n σ3 H3 w3 with⟨stop,qn⟩|⟨go,N,hN,step⟩
 ·refine wpAny_passesOwn hp (thn (T.done X rfl rfl rfl hc i pins s3 σ3 H3 X.xe I3 (stat fr3) st3 stop) ?_);rintro r s4 ⟨hr,I4⟩;subst hr;exact wpAny_execs_nil ⟨σ3,H3,I4,qn⟩
 ·refine wpAny_passesOwn hp (thn (T.item X rfl rfl rfl hc i pins s3 σ3 H3 X.xe I3 (stat fr3) st3 go) ?_);rintro r s4 ⟨u,hr,h4⟩;subst hr;refine wpAny_passesOwn hp (thn h4 ?_);rintro _ s5 ⟨x,H5,I5,r5,y5,st5,fr5⟩;have I5':=I5.pinned (stat fr5) (T.obj _ _ st5);refine wpAny_passesOwn hp (thn (hg _ s5 σ3 H5 x u _ I5' r5 (step x H5 y5)) ?_);rintro _ s6 ⟨σ6,H6,I6,q6⟩;refine wpAny_passesOwn hp (thn (hb _ s6 σ6 H6 _ I6 q6) λf s7 q7=>?_);have again:∀ {σ7:St}{H7:Hp},Inv X (pins++zF fp s5.heap) σ7 H7 s7->N σ7 H7->∃ m,m<n/\∃ i O' H',Inv X pins O' H' s7/\tn i s7.heap/\(∀ b∈fp,H' b=none)/\W i m O' H':=λ{σ7 H7} I7 n7=>by
   obtain⟨m',hm,w7⟩:=hN σ7 H7 n7;refine⟨m',hm,i+1,σ7,H7,I7.uV,T.keep _ _ _ st5 λb hb o e=>(I7.pin (b,o) (ZaJ _ (ZaJ _ (oX hb e)))).1,λb hb=>?_,w7⟩;obtain⟨o,e,d⟩:=T.obj _ _ st5 b hb;exact(I7.pin (b,o) (ZaJ _ (ZaJ _ (oX hb e)))).2.1
  cases f with
  |next=>obtain⟨σ7,H7,I7,n7⟩:=q7;exact again I7 n7
  |cont=>obtain⟨σ7,H7,I7,n7⟩:=q7;exact again I7 n7
  |brk=>obtain⟨σ7,H7,I7,q7⟩:=q7;exact⟨σ7,H7,I7.uV,q7⟩
  |ret v=>obtain⟨x7,σ7,H7,I7,r7,q7⟩:=q7;exact⟨x7,σ7,H7,I7.uV,r7,q7⟩
end
noncomputable abbrev R2:=V->V->Hp->VK->Prop
def OpR(X:Cx)(f:Value->Value->Sem Value)(r:R2):Prop:=
 ∀ (pins:List (Addr×Obj)) (s:Shared) (O:St) (H:Hp) (x y:V) (v u:Value) (Q:VK),Inv X pins O H s->RelV x v->RelV y u->r x y H Q ->
  wpAny (model X.prog X.w) X.A (f v u) (EP X pins O Q) X.xe s
def UnR(X:Cx)(f:Value->Sem Value)(r:V->Hp->VK->Prop):Prop:=
 ∀ (pins:List (Addr×Obj)) (s:Shared) (O:St) (H:Hp) (x:V) (v:Value) (Q:VK),Inv X pins O H s->RelV x v->r x H Q ->
  wpAny (model X.prog X.w) X.A (f v) (EP X pins O Q) X.xe s
def jR(X:Cx)(f:Value)(r:List V->Hp->VK->Prop):Prop:=
 ∀ (pins:List (Addr×Obj)) (s:Shared) (O:St) (H:Hp) (xs:List V) (us:List Value) (Q:VK),Inv X pins O H s->Vals xs us->r xs H Q ->
  wpAny (model X.prog X.w) X.A (call f us) (EP X pins O Q) X.xe s
def tOp(r:R2)(ta tb:TE):TE:=λO H Q=>ta O H λx H1=>tb O H1 λy H2=>r x y H2 Q
def tUn(r:V->Hp->VK->Prop)(ta:TE):TE:=λO H Q=>ta O H λx H1=>r x H1 Q
def rI(C:Int->Int->Prop)(g:Int->Int->V):R2:=λx y H Q=>∃ i j,x=.int i/\y=.int j/\C i j/\Q (g i j) H
def rI0(g:Int->Int->V):R2:=λx y H Q=>∃ i j,x=.int i/\y=.int j/\Q (g i j) H
def rU(g:Int->V):V->Hp->VK->Prop:=λx H Q=>∃ i,x=.int i/\Q (g i) H
section
variable{X:Cx}{a b:Expr}{ta tb:TE}{pos:Pos}
theorem WY(ha:PE X a ta)(hb:PE X b tb){pins:List (Addr×Obj)}{s:Shared}{O:St}{H:Hp}{R:V->V->Hp->Prop}(I:Inv X pins O H s)
  (h:ta O H λx H1=>tb O H1 λy H2=>R x y H2){Q:Value->Shared->Prop}{f:Value->Value->Sem Value}
  (hf:∀ v u s2 x y H2,Inv X pins O H2 s2->RelV x v->RelV y u->R x y H2->wpAny (model X.prog X.w) X.A (f v u) Q X.xe s2) :
  wpAny (model X.prog X.w) X.A (eval a X.env) (λv s₁=>wpAny (model X.prog X.w) X.A (eval b X.env) (λu s₂=>wpAny (model X.prog X.w) X.A (f v u) Q X.xe s₂) X.xe s₁) X.xe s:=by
 refine thn (ha pins s O H _ I h) ?_;rintro v s1 ⟨x,H1,I1,r1,q1⟩;refine thn (hb pins s1 O H1 _ I1 q1) ?_;rintro u s2 ⟨y,H2,I2,r2,q2⟩;exact hf v u s2 x y H2 I2 r1 r2 q2
theorem aW{op:Operator}{r:R2}(ho:OpR X (binaryOp op) r)(ha:PE X a ta)(hb:PE X b tb):PE X (.BinOp a op b pos) (tOp r ta tb):=by
 intro pins s O H Q I h;exact wpAny_BinOp (WY ha hb I h λv u s2 x y H2 I2 rx ry q=>ho pins s2 O H2 x y v u Q I2 rx ry q)
theorem V4{op:UnaryOp}{r:V->Hp->VK->Prop}(ho:UnR X (unaryOp op) r)(ha:PE X a ta):PE X (.UnaryOp op a pos) (tUn r ta):=by
 intro pins s O H Q I h;exact UnaryOp_ (thn (ha pins s O H _ I h) λv s1 ⟨x,H1,I1,r1,q1⟩=>ho pins s1 O H1 x v Q I1 r1 q1)
theorem opI{f:Value->Value->Sem Value}{C:Int->Int->Prop}{g:Int->Int->Int}
  (rule:∀ (i j:Int) (t u:Tok) (s:Shared) (Q:Value->Shared->Prop) (E:Value->Shared->Prop),C i j->Q (.int (g i j) s.toks) { s with toks:=s.toks+1 }->wpAny (model X.prog X.w) X.A (f (.int i t) (.int j u)) Q E s) :
  OpR X f (rI C λi j=>.int (g i j)):=by
 intro pins s O H x y v u Q I rx ry h;obtain⟨i,j,rfl,rfl,hc,q⟩:=h;obtain⟨t,rfl⟩:=rx;obtain⟨t',rfl⟩:=ry;exact rule i j t t' s _ _ hc ⟨.int (g i j),H,I.tok _,⟨_,rfl⟩,q⟩
theorem Uo{f:Value->Value->Sem Value}{g:Int->Int->Int}
  (rule:∀ (i j:Int) (t u:Tok) (s:Shared) (Q:Value->Shared->Prop) (E:Value->Shared->Prop),Q (.int (g i j) s.toks) { s with toks:=s.toks+1 }->wpAny (model X.prog X.w) X.A (f (.int i t) (.int j u)) Q E s) :
  OpR X f (rI0 λi j=>.int (g i j)):=by
 intro pins s O H x y v u Q I rx ry h;obtain⟨i,j,rfl,rfl,q⟩:=h;obtain⟨t,rfl⟩:=rx;obtain⟨t',rfl⟩:=ry;exact rule i j t t' s _ _ ⟨.int (g i j),H,I.tok _,⟨_,rfl⟩,q⟩
theorem Uq{f:Value->Value->Sem Value}{g:Int->Int->Bool}
  (rule:∀ (i j:Int) (t u:Tok) (s:Shared) (Q:Value->Shared->Prop) (E:Value->Shared->Prop),Q (.bool (g i j)) s->wpAny (model X.prog X.w) X.A (f (.int i t) (.int j u)) Q E s) :
  OpR X f (rI0 λi j=>.bl (g i j)):=by
 intro pins s O H x y v u Q I rx ry h;obtain⟨i,j,rfl,rfl,q⟩:=h;obtain⟨t,rfl⟩:=rx;obtain⟨t',rfl⟩:=ry;exact rule i j t t' s _ _ ⟨.bl (g i j),H,I,rfl,q⟩
def W0(i j:Int):Prop:=0<j/\j<1073741824
def QF(i j:Int):Prop:=0<=j/\j<=1000000/\i.natAbs<2^64
def Kw(i j:Int):Prop:=(-(2^64)<i/\i<2^64)\/(-(2^64)<j/\j<2^64)
theorem Kw.ok{i j:Int}(h:Kw i j):IntMulOk i j:=by
 rcases h with⟨h1,h2⟩|⟨h1,h2⟩
 ·exact .of_left (intBits_le_64 h1 h2)
 ·exact .of_right (intBits_le_64 h1 h2)
theorem Ky(k:Nat):(0:Int)<=2^k:=by
 rw[two_pow_cast];exact Za1 _
theorem W2:OpR X (binaryOp .Add) (rI0 λi j=>.int (i+j)):=Uo λ_ _ _ _ _ _ _ q=>add_int q
theorem uf:OpR X (binaryOp .Sub) (rI0 λi j=>.int (i-j)):=Uo λ_ _ _ _ _ _ _ q=>sub_int q
theorem W3:OpR X (binaryOp .Mult) (rI Kw λi j=>.int (i*j)):=opI λ_ _ _ _ _ _ _ hc q=>mul_int q hc.ok
theorem zb:OpR X (binaryOp .FloorDiv) (rI W0 λi j=>.int (i/j)):=opI λi j _ _ _ _ _ hc q=>by
 have h1:(0:Int)<j:=hc.1;have h2:j<1073741824:=hc.2;exact floordiv_int (by omega) (by rw[ZcJ i (by omega)];exact q) (.inl (PyProof.noPylong_small (by omega)))
theorem eY:OpR X (binaryOp .Mod) (rI (λ_ j=>0<j) λi j=>.int (i%j)):=opI λi j _ _ _ _ _ hc q=>by
 have h1:(0:Int)<j:=hc;exact mod_int' (by omega) (by rw[Int.fmod_eq_emod_of_nonneg i (by omega)];exact q)
theorem W4:OpR X (binaryOp .Pow) (rI QF λi j=>.int (i^j.toNat)):=opI λ_ _ _ _ _ _ _ hc q=>pow_int_small hc.1 hc.2.1 hc.2.2 q
theorem zG:OpR X (binaryOp .LShift) (rI QF λi j=>.int (i*2^j.toNat)):=opI λ_ _ _ _ _ _ _ hc q=>lshift_int_small hc.1 hc.2.1 hc.2.2 q
theorem QG:OpR X (binaryOp .RShift) (rI (λ_ j=>0<=j) λi j=>.int (i/2^j.toNat)):=opI λi j _ _ _ _ _ hc q=>
 rshift_int hc (by rw[ZcJ i (Ky _)];exact q)
theorem oY:OpR X (binaryOp .BitAnd) (rI0 λi j=>.int (Builtin.bitAnd i j)):=Uo λ_ _ _ _ _ _ _ q=>and_int q
theorem V5:OpR X (binaryOp .BitOr) (rI0 λi j=>.int (Builtin.bitOr i j)):=Uo λ_ _ _ _ _ _ _ q=>or_int q
theorem unI{f:Value->Sem Value}{g:Int->Int}
  (rule:∀ (i:Int) (t:Tok) (s:Shared) (Q:Value->Shared->Prop) (E:Value->Shared->Prop),Q (.int (g i) s.toks) { s with toks:=s.toks+1 }->wpAny (model X.prog X.w) X.A (f (.int i t)) Q E s) :
  UnR X f (rU λi=>.int (g i)):=by
 intro pins s O H x v Q I rx h;obtain⟨i,rfl,q⟩:=h;obtain⟨t,rfl⟩:=rx;exact rule i t s _ _ ⟨.int (g i),H,I.tok _,⟨_,rfl⟩,q⟩
theorem W5:UnR X (unaryOp .USub) (rU λi=>.int (-i)):=unI λ_ _ _ _ _ q=>neg_int q
theorem W6:UnR X (unaryOp .Invert) (rU λi=>.int (Builtin.bitNot i)):=unI λ_ _ _ _ _ q=>invert_int q
end
section
variable{X:Cx}{a b c:Expr}{ta tb tc:TE}{pos:Pos}
theorem zH{pins:List (Addr×Obj)}{O:St}{H:Hp}{s:Shared}{Q:VK}{k k':Bool}(I:Inv X pins O H s)(q:Q (.bl k) H)(e:k=k'):EP X pins O Q (.bool k') s:=by
 subst e;exact⟨.bl k,H,I,rfl,q⟩
theorem Yw:OpR X (compareOp .Lt) (rI0 λi j=>.bl (decide (i<j))):=Uq λ_ _ _ _ _ _ _ q=>lt_int q
theorem Yx:OpR X (compareOp .LtE) (rI0 λi j=>.bl (decide (i<=j))):=Uq λ_ _ _ _ _ _ _ q=>le_int q
theorem Mp:OpR X (compareOp .Gt) (rI0 λi j=>.bl (decide (j<i))):=Uq λ_ _ _ _ _ _ _ q=>gt_int q
theorem Yy:OpR X (compareOp .GtE) (rI0 λi j=>.bl (decide (j<=i))):=Uq λ_ _ _ _ _ _ _ q=>ge_int q
theorem Ox:OpR X (compareOp .Lt) (λx y H Q=>∃ i j,x=.str i/\y=.str j/\Q (.bl (decide (i.cps.toList<j.cps.toList))) H):=by
 intro pins s O H x y v u Q I rx ry h;obtain⟨i,j,rfl,rfl,q⟩:=h;obtain⟨t,rfl⟩:=rx;obtain⟨t',rfl⟩:=ry;exact lt_str (zH I q rfl)
theorem W7:OpR X (compareOp .Is) (λx y H Q=>y=.non/\Q (.bl (decide (x=.non))) H):=by
 intro pins s O H x y v u Q I rx ry h;obtain⟨rfl,q⟩:=h;cases ry;refine is_none_gen (zH I q ?_);cases x<;>first
  |(cases rx;rfl)
  |(obtain⟨t,rfl⟩:=rx;rfl)
theorem Mq:OpR X (compareOp .IsNot) (λx y H Q=>y=.non/\Q (.bl (!decide (x=.non))) H):=by
 intro pins s O H x y v u Q I rx ry h;obtain⟨rfl,q⟩:=h;cases ry;refine isnot_none_gen (zH I q ?_);cases x<;>first
  |(cases rx;rfl)
  |(obtain⟨t,rfl⟩:=rx;rfl)
theorem EY:OpR X (compareOp .NotIn) (λx y H Q=>∃ i j,x=.str i/\y=.str j/\Q (.bl (!(!(Builtin.Str.occurrences j i 0 j.length 1).isEmpty))) H):=by
 intro pins s O H x y v u Q I rx ry h;obtain⟨i,j,rfl,rfl,q⟩:=h;obtain⟨t,rfl⟩:=rx;obtain⟨t',rfl⟩:=ry;exact notIn_str (zH I q rfl)
theorem OpR.or{f:Value->Value->Sem Value}{r r':R2}(h:OpR X f r)(h':OpR X f r'):OpR X f (λx y H Q=>r x y H Q\/r' x y H Q):=by
 intro pins s O H x y v u Q I rx ry q;rcases q with q|q
 ·exact h pins s O H x y v u Q I rx ry q
 ·exact h' pins s O H x y v u Q I rx ry q
theorem bT(b:Expr){op:CmpOp}(h:op≠.In:=by decide)(h2:op≠.NotIn:=by decide):behindInMarks op b=false:=by
 have e1:(op==CmpOp.In)=false:=by cases op<;>first|rfl|exact absurd rfl h
 have e2:(op==CmpOp.NotIn)=false:=by cases op<;>first|rfl|exact absurd rfl h2
 cases b<;>simp[behindInMarks,e1,e2]
theorem rB{op:CmpOp}{r:R2}(ho:OpR X (compareOp op) r)(ha:PE X a ta)(hb:PE X b tb)(hm:behindInMarks op b=false):PE X (.Compare a [op] [b] pos) (tOp r ta tb):=by
 intro pins s O H Q I h;exact wpAny_Compare1 (WY ha hb I h λv u s2 x y H2 I2 rx ry q=>ho pins s2 O H2 x y v u Q I2 rx ry q) hm
def V6(t:TE):TT:=λO H Q=>t O H λx H'=>∃ k,x=.bl k/\Q k H'
theorem bz{op:CmpOp}{r:R2}(ho:OpR X (compareOp op) r)(ha:PE X a ta)(hb:PE X b tb)(hm:behindInMarks op b=false):PT X (.Compare a [op] [b] pos) (V6 (tOp r ta tb)):=by
 intro pins s O H Q I h;refine wpAny_isTrue_Compare1 (thn (ha pins s O H _ I h) λv s1 ⟨x,H1,I1,r1,q1⟩=>thn (hb pins s1 O H1 _ I1 q1) λu s2 ⟨y,H2,I2,r2,q2⟩=>
  thn (ho pins s2 O H2 x y v u _ I2 r1 r2 q2) λc s3 ⟨z,H3,I3,r3,k,e,q3⟩=>?_) hm
 subst e;cases r3;exact wpAny_truthy_bool ⟨H3,I3,q3⟩
def QH(r r':R2)(ta tb tc:TE):TE:=λO H Q=>ta O H λx H1=>tb O H1 λy H2=>r x y H2 λz H3=>∃ k,z=.bl k /\
 (if k=true then tc O H3 λw' H4=>r' y w' H4 Q else Q (.bl false) H3)
theorem QJ{op op':CmpOp}{r r':R2}(ho:OpR X (compareOp op) r)(ho':OpR X (compareOp op') r')(ha:PE X a ta)(hb:PE X b tb)(hc:PE X c tc)
  (hm:lastMarks [op,op'] [b,c]=false:=by with_unfolding_all rfl):PE X (.Compare a [op,op'] [b,c] pos) (QH r r' ta tb tc):=by
 intro pins s O H Q I h;refine Compare_chain (thn (ha pins s O H _ I h) λv s1 ⟨x,H1,I1,r1,q1⟩=>chain_link (thn (hb pins s1 O H1 _ I1 q1) λu s2 ⟨y,H2,I2,r2,q2⟩=>
  thn (ho pins s2 O H2 x y v u _ I2 r1 r2 q2) λd s3 ⟨z,H3,I3,r3,k,e,q3⟩=>?_)) hm
 subst e;cases r3;refine wpAny_truthy_bool ?_;cases k with
 |false=>exact ite_ff ⟨.bl false,H3,I3,rfl,q3⟩
 |true=>exact ite_tt (chain_last (thn (hc pins s3 O H3 _ I3 q3) λw' s4 ⟨z',H4,I4,r4,q4⟩=>ho' pins s4 O H4 y z' u w' Q I4 r2 r4 q4))
theorem Fb:(sizeLine:Nat)<2^63:=by rw[sizeLine_eq];decide
theorem Kz:OpR X (binaryOp .Add) (λx y H Q=>∃ i j,x=.str i/\y=.str j/\i.length+j.length<=sizeLine/\Q (.str (i++j)) H):=by
 intro pins s O H x y v u Q I rx ry h;obtain⟨i,j,rfl,rfl,hz,q⟩:=h;obtain⟨t,rfl⟩:=rx;obtain⟨t',rfl⟩:=ry;exact add_str (λt' tk=>⟨.str (i++j),H,I.tok _,⟨_,rfl⟩,q⟩) hz
theorem vals1{x:V}{us:List Value}(r:Vals [x] us):∃ u,us=[u]/\RelV x u:=by
 cases r with
 |cons r1 r2=>cases r2;exact⟨_,rfl,r1⟩
def Yz(K:Frag)(x:V)(H:Hp)(n:Nat):Prop:=
 match x with
 |.str y=>y.length<=sizeLine/\n=y.length
 |.byt y=>y.size<=sizeLine/\n=y.size
 |.ref p=>(∃ xs,SqL K H p xs/\n=xs.length)\/∃ xs,SqT K H p xs/\n=xs.length
 |_=>False
theorem du:jR X (.builtin "len") (λxs H Q=>∃ x n,xs=[x]/\Yz X.K x H n/\Q (.int n) H):=by
 intro pins s O H xs us Q I r h;obtain⟨x,n,rfl,e,q⟩:=h;obtain⟨u,rfl,rx⟩:=vals1 r;have hl:=Fb;have hs:sizeLine=16777216:=sizeLine_eq;cases x with
 |str y=>
  obtain⟨t,rfl⟩:=rx;obtain⟨hy,e'⟩:y.length<=sizeLine/\n=y.length:=e;subst e';exact len_str (by lia) ⟨.int _,H,I.tok _,⟨_,rfl⟩,q⟩
 |byt y=>
  obtain⟨t,rfl⟩:=rx;obtain⟨hy,e'⟩:y.size<=sizeLine/\n=y.size:=e;subst e';exact PySem.W.len_bytes (by lia) ⟨.int _,H,I.tok _,⟨_,rfl⟩,q⟩
 |ref p=>
  cases rx;have e':(∃ xs,SqL X.K H p xs/\n=xs.length)\/∃ xs,SqT X.K H p xs/\n=xs.length:=e;rcases e' with⟨xs,hx,e'⟩|⟨xs,hx,e'⟩
  ·subst e';obtain⟨its,r',pl,hz⟩:=I.list hx;have hlen:=r'.length;exact Calls.call_len_list pl.isList (by simp only[List.size_toArray];lia) ⟨.int xs.length,H,I.tok _,⟨_,by simp only[List.size_toArray];rw[hlen]⟩,q⟩
  ·subst e';obtain⟨its,r',pl,hz⟩:=I.tuple hx;have hlen:=r'.length;exact len_tuple pl (by simp only[List.size_toArray];lia) ⟨.int xs.length,H,I.tok _,⟨_,by simp only[List.size_toArray];rw[hlen]⟩,q⟩
 |_=>exact(show False from e).elim
end
structure YB(h:Heap)(x dx C:Addr)(mA:Str->Option Value):Prop where
 obj:h.get? x=some (PySem.W.instObj C dx)
 ns:h.Ns1 dx mA
 ne:dx≠x
theorem Oz{h:Heap}{dx:Addr}{mA:Str->Option Value}(n:h.Ns1 dx mA):∃ od,h.get? dx=some od/\∀ name,PySem.W.lookIn name od=some (mA name):=by
 obtain⟨o,es,ep,ho,hd,hk,_,hm⟩:=n;refine⟨o,ho,λname=>?_⟩;have e:=hm name;unfold nsFind findBy at e;rw[<-Array.find?_toList] at e;unfold PySem.W.lookIn;rw[hd];dsimp only;split
 ·rename_i y q;rw[q] at e;exact ZaY some e
 ·rename_i q;rw[q] at e;have a:es.toList.any (·.refKey)=false:=by
   rw[List.any_eq_false];intro y hy;obtain⟨z,t,hkey⟩:=hk y (Array.mem_toList_iff.mp hy);simp[DictEntry.refKey,hkey]
  have a':¬es.toList.any (·.refKey)=true:=by rw[a];exact Zbe
  rw[Zal a'];exact ZaY some e
theorem YB.look{h:Heap}{x dx C:Addr}{mA:Str->Option Value}(I:YB h x dx C mA):∃ od,PySem.W.InstAt h x (PySem.W.instObj C dx) C (some od)/\∀ name,PySem.W.lookIn name od=some (mA name):=
 let⟨od,ho,hl⟩:=Oz I.ns
 ⟨od,⟨I.obj,rfl,rfl,ho⟩,hl⟩
theorem yN.some_of{v:V}{o:Option Value}(r:yN (some v) o):∃ u,o=some u/\RelV v u:=by
 cases o with
 |none=>exact(show False from r).elim
 |some u=>exact⟨u,rfl,r⟩
structure Cls(K:Frag)(C:Addr):Prop where
 pg:PySem.W.plainGet K C Str.empty=true
 hd:PySem.W.hasDictIn K C=true
 po:PySem.W.plainOver K C=true
 sa:PySem.W.findIn K (.ref C) "__setattr__"=some (some (.builtin "object.__setattr__"))
theorem Cls.get{K:Frag}{C:Addr}(c:Cls K C)(f:Str):PySem.W.plainGet K C f=true:=c.pg
structure fu(k:Nat)(A:Around):Prop where
 hd:A.handled=none
 dp:A.depth+3*k+5<recursionLimit
 un:A.units+16*k+200<cLine
theorem fu.mono{j k:Nat}{A:Around}(r:fu k A)(h:j<=k):fu j A:=⟨r.hd,by have:=r.dp;lia,by have:=r.un;lia⟩
theorem fu.deeper{k:Nat}{A:Around}(r:fu (k+1) A)(env:Env):fu k (A.deeper env):=
 ⟨r.hd,by have:=r.dp;show A.depth+1+3*k+5<_;lia,by have:=r.un;show A.units+3+16*k+200<_;lia⟩
theorem fu.in1{k:Nat}{A:Around}(r:fu (k+1) A):fu k A.in1:=
 ⟨r.hd,by have:=r.dp;show A.depth+3*k+5<_;omega,by have:=r.un;show A.units+1+16*k+200<_;omega⟩
theorem fu.depth{k:Nat}{A:Around}(r:fu k A):A.depth<recursionLimit:=by have:=r.dp;omega
theorem fu.units{k:Nat}{A:Around}(r:fu k A):A.units+64<cLine:=by have:=r.un;omega
def xx:TA:=λ_ H Q=>Q [] H
def kO(ta:TE)(tr:TA):TA:=λO H Q=>ta O H λx H1=>tr O H1 λxs H2=>Q (x::xs) H2
section
variable{X:Cx}{e:Expr}{es:List Expr}{te:TE}{t:TA}{pos:Pos}
theorem aC:PA X [] xx:=λ_ _ _ _ H Q I h=>Zct ⟨[],H,I,.nil,h⟩
theorem ak(ha:PE X e te)(hr:PA X es t)(hs:starEach (e::es) X.env=(false,eval e X.env)::starEach es X.env:=by rfl):PA X (e::es) (kO te t):=by
 intro pos pins s O H Q I h;rw[hs];show wpAny _ _ (spliced ((false,eval e X.env)::backTo pos (starEach es X.env))) _ _ s
 refine ZbM (thn (ha pins s O H _ I h) ?_);rintro u s1 ⟨x,H1,I1,r1,q1⟩;exact thn (hr pos pins s1 O H1 _ I1 q1) λus s2 ⟨xs,H2,I2,r2,q2⟩=>⟨x::xs,H2,I2,.cons r1 r2,q2⟩
def W8(t:TA):TE:=λO H Q=>t O H λxs H1=>xs.length<=sizeLine/\∀ p,H1 p=none->Q (.ref p) (upd H1 p (.tup xs))
def W9(t:TA):TE:=λO H Q=>t O H λxs H1=>xs.length<=sizeLine/\∀ p,H1 p=none->Q (.ref p) (upd H1 p (.lst xs))
theorem dH{x1}(h:PA X es t):PE X (.Tuple es x1 pos) (W8 t):=by
 intro pins s O H Q I hq;refine wpAny_Tuple_spliced (thn (h pos pins s O H _ I hq) λus s1 ⟨xs,H1,I1,r,z,q⟩=>⟨by rw[<-r.length];exact z,?_⟩)
 have hf:H1 s1.heap.objs.size=none:=I1.hok.fresh (Zan _);refine⟨.ref s1.heap.objs.size,upd H1 s1.heap.objs.size (.tup xs),I1.laid (t':=s1.toks) (λb u e=>Zaj _ e) (Zan _) ?_,rfl,q _ hf⟩;exact⟨z,us,r,gb.mk (Zar _ rfl)⟩
theorem oZ(h:PA X es t):PE X (.List es pos) (W9 t):=by
 intro pins s O H Q I hq;refine wpAny_List_spliced (thn (h pos pins s O H _ I hq) λus s1 ⟨xs,H1,I1,r,z,q⟩=>⟨by rw[<-r.length];exact z,?_⟩)
 have hf:H1 s1.heap.objs.size=none:=I1.hok.fresh (Zan _);refine⟨.ref s1.heap.objs.size,upd H1 s1.heap.objs.size (.lst xs),I1.laid (t':=s1.toks) (λb u e=>Zaj _ e) (Zan _) ?_,rfl,q _ hf⟩;exact⟨z,us,0,r,Zar _ rfl⟩
end
noncomputable abbrev Sp:=List V->Hp->VK->XK->Prop
noncomputable abbrev CXT:=List Env->Hp->Shared->XK->Value->Shared->Prop
structure KC(P:Program)(w:World)(K:Frag)(mg:Str->Option Value)(base:Heap)(A:Around)(outer:List Env)(s:Shared)(H:Hp):Prop where
 frames:A.frames=some outer
 mod:Mod K mg base
 bs:∀ b o,base.get? b=some o->s.heap.get? b=some o/\H b=none
 bsz:base.objs.size<=s.heap.objs.size
 xu:s.heap.FunFrames base outer
 frf:∀ b∈frs outer,H b=none
 hok:HOk P w H s.heap
 bare:AllBare s.gens
def CE(outer:List Env)(P:Program)(w:World)(H:Hp)(s:Shared)(Q:VK)(u:Value)(s':Shared):Prop:=
 ∃ v H',s'.os=s.os/\AllBare s'.gens/\Un (frs outer) [] H H' s.heap s'.heap/\HOk P w H' s'.heap/\RelV v u/\Q v H'
def CR(CX:CXT)(outer:List Env)(P:Program)(w:World)(H:Hp)(s:Shared)(Q:VK)(E:XK)(r:Result)(s':Shared):Prop:=
 match r with
 |.ok (.ret u)=>CE outer P w H s Q u s'
 |.ok _=>False
 |.error e=>CX outer H s E e s'
structure sI(P:Program)(w:World)(K:Frag)(mg:Str->Option Value)(base:Heap)(CX:CXT)(k:Nat)(f:Addr)(fd:FuncData)(ps:List Str)(sp:Sp):Prop where
 len:∀ vs H Q E,sp vs H Q E->vs.length=ps.length
 run:∀ (A:Around) (outer:List Env) (s:Shared) (H:Hp) (args:Args) (us:List Value) (vs:List V) (Q:VK) (E:XK),fu k A->KC P w K mg base A outer s H->BindsTo s fd args (ps.zip us)->Vals vs us->sp vs H Q E ->
  codeAny (model P w) A (.call (.ref f) args) (CR CX outer P w H s Q E) s
theorem sI.mono{P:Program}{w:World}{K:Frag}{mg:Str->Option Value}{base:Heap}{CX:CXT}{j k:Nat}{f:Addr}{fd:FuncData}{ps:List Str}{sp:Sp}(F:sI P w K mg base CX j f fd ps sp)(h:j<=k) :
  sI P w K mg base CX k f fd ps sp:=⟨F.len,λA outer s H args us vs Q E hr=>F.run A outer s H args us vs Q E (hr.mono h)⟩
theorem sI.imp{P:Program}{w:World}{K:Frag}{mg:Str->Option Value}{base:Heap}{CX:CXT}{k:Nat}{f:Addr}{fd:FuncData}{ps:List Str}{sp sp':Sp}(F:sI P w K mg base CX k f fd ps sp)
  (h:∀ vs H Q E,sp' vs H Q E->sp vs H Q E):sI P w K mg base CX k f fd ps sp':=
 ⟨λvs H Q E q=>F.len vs H Q E (h _ _ _ _ q),λA outer s H args us vs Q E hr he hb hv hs=>F.run A outer s H args us vs Q E hr he hb hv (h _ _ _ _ hs)⟩
theorem KC.in1{P:Program}{w:World}{K:Frag}{mg:Str->Option Value}{base:Heap}{A:Around}{outer:List Env}{s:Shared}{H:Hp}(e:KC P w K mg base A outer s H) :
  KC P w K mg base A.in1 outer s H:=⟨e.frames,e.mod,e.bs,e.bsz,e.xu,e.frf,e.hok,e.bare⟩
section
variable{X:Cx}{pins:List (Addr×Obj)}{O:St}{H:Hp}{s s':Shared}
theorem Inv.env0(I:Inv X pins O H s):KC X.prog X.w X.K X.mg X.base X.A X.stack s H:=
 ⟨I.ok.frames,I.ok.mod,I.bs,ZaI I.ok.bsz I.sz,I.stack,I.Mj,I.hok,I.bare⟩
theorem Inv.after{Q:VK}{u:Value}(I:Inv X pins O H s)(h:CE X.stack X.prog X.w H s Q u s'):EP X pins O Q u s':=by
 obtain⟨v,H',os,bare,un,hok,r,q⟩:=h;obtain⟨hh,g,d,t,os'⟩:=s';obtain rfl:os'=s.os:=os;exact⟨v,H',I.call (h':=hh) (g':=g) (d':=d) (t':=t) (ch:=[]) un hok bare (λb z=>absurd z (by simp)),r,q⟩
end
def zJ(sp:Sp)(dvs:List V)(E:XK)(t:TA):TE:=λO H Q=>t O H λvs H1=>sp (vs++dvs) H1 Q E
def Binds(K:Frag)(fd:FuncData)(ps:List Str)(ds:List Value):Prop:=
 ∀ (s:Shared) (us:List Value),K.In s.heap->(us++ds).length=ps.length->BindsTo s fd ⟨us,[]⟩ (ps.zip (us++ds))
theorem Binds.all{K:Frag}{fd:FuncData}{ps:List Str}(h:∀ us:List Value,us.length=ps.length->bindArgs fd ⟨us,[]⟩=pure (ps.zip us)):Binds K fd ps []:=λs us _ hl=>by
 rw[Zbp] at hl ⊢;exact .of_eq (h us hl)
def KD(CX:CXT)(X:Cx)(E:XK):Prop:=∀ (pins:List (Addr×Obj)) (O:St) (H:Hp) (s:Shared) (e:Value) (s':Shared),Inv X pins O H s->CX X.stack H s E e s'->X.xe e s'
section
variable{X:Cx}{CX:CXT}{k:Nat}{f:Addr}{fd:FuncData}{ps:List Str}{sp:Sp}{dvs:List V}{ds:List Value}{E:XK}{x:Str}{p pos:Pos}{e:Expr}{es:List Expr}{t:TA}
theorem Xa{pins:List (Addr×Obj)}{O:St}{H:Hp}{s:Shared}{Q:VK}{us:List Value}{vs:List V}(F:sI X.prog X.w X.K X.mg X.base CX k f fd ps sp)(hr:fu k X.A)(hb:Binds X.K fd ps ds)(hd:Vals dvs ds)(hx:KD CX X E)
  (I:Inv X pins O H s)(r:Vals vs us)(h:sp (vs++dvs) H Q E):wpAny (model X.prog X.w) X.A (call (.ref f) us) (EP X pins O Q) X.xe s:=by
 have r2:Vals (vs++dvs) (us++ds):=r.append hd;have hl:(us++ds).length=ps.length:=by rw[<-r2.length];exact F.len _ _ _ _ h
 refine wpAny_call (codeAny_mono (F.run X.A X.stack s H ⟨us,[]⟩ (us++ds) (vs++dvs) Q E hr I.env0 (hb s us I.kIn hl) r2 h) λr s' hq=>?_);cases r with
 |error e=>exact hx pins O H s e s' I hq
 |ok fl=>
  cases fl with
  |ret u=>exact I.after hq
  |next=>exact False.elim hq
  |brk=>exact False.elim hq
  |cont=>exact False.elim hq
theorem Ur(F:sI X.prog X.w X.K X.mg X.base CX k f fd ps sp)(hr:fu k X.A)(hg:Gl X x)(hm:X.mg x=some (.ref f))(hk:keepIn X.K (.ref f)=true)(hb:Binds X.K fd ps ds)(hd:Vals dvs ds)(hx:KD CX X E)
  (ha:PA X (e::es) t)(hdb:(x==("__debug__":Str))=false:=by decide)(he:starEach (e::es) X.env=(false,eval e X.env)::starEach es X.env:=by rfl)(hpl:(backTo pos (starEach es X.env)).any (·.1)=false:=by rfl) :
  PE X (.Call (.Name x p) (e::es) [] pos) (zJ sp dvs E t):=by
 intro pins s O H Q I h;refine wpAny_Call_Name_kw (Mm I hg hm ?_ hdb);refine PySem.W.callWith_K (h₀:=X.base) I.ok.mod.kin hk (thn (ha pos pins s O H _ I h) λus s1 ⟨vs,H1,I1,r,q⟩=>⟨I1.kIn,?_⟩) he hpl;exact Xa F hr hb hd hx I1 r q
end
structure bu(N P:List Str)(sc:Scope):Prop where
 kind:sc.kind=.function
 co:sc.isCoroutine=false
 gen:sc.isGenerator=false
 nd:N.Nodup
 pre:N.take P.length=P
 par:∀ x∈P,sc.names.lookup x=some .local\/sc.names.lookup x=some .cell
 nofree:∀ y∈sc.names,y.2≠.free
theorem Dl{kindOf:Str->Option NameKind}{x:Str}:∀ {binds:List (Str×Value)}{m:Str->Option Value},(∀ v,(x,v) ∉ binds)->bindL kindOf binds m x=m x
 |[],_,_=>rfl
 |(n,v)::r,m,h=>by
  unfold bindL;rw[Dl λw hw=>h w (Zat _ hw)];split
  ·have:x≠n:=by rintro rfl;exact h v Zax
   simp[this]
  ·rfl
theorem Dm{kindOf:Str->Option NameKind}{x:Str}:∀ {binds:List (Str×Value)}{m:Str->Option Value},(∀ v,(x,v) ∉ binds)->bindC kindOf binds m x=m x
 |[],_,_=>rfl
 |(n,v)::r,m,h=>by
  unfold bindC;rw[Dm λw hw=>h w (Zat _ hw)];split
  ·rfl
  ·have:x≠n:=by rintro rfl;exact h v Zax
   simp[this]
theorem Do{kindOf:Str->Option NameKind}{x:Str}{v:Value}:∀ {P:List Str}{vs:List Value}{i:Nat}{m:Str->Option Value},P.Nodup->P[i]?=some x->vs[i]?=some v->kindOf x=some .local ->
  bindL kindOf (P.zip vs) m x=some v
 |[],_,_,_,_,h,_,_=>by simp at h
 |_::_,[],_,_,_,_,h,_=>by simp at h
 |p::P,w::vs,0,m,nd,h1,h2,hk=>by
  simp at h1 h2;subst h1;subst h2;show bindL kindOf ((p,w)::P.zip vs) m p=_
  unfold bindL;rw[Dl λv hv=>(Zbs.mp nd).1 (Zc1 hv).1,Zam hk];simp
 |p::P,w::vs,i+1,m,nd,h1,h2,hk=>by
  show bindL kindOf ((p,w)::P.zip vs) m x=_
  unfold bindL;exact Do (i:=i) (Zbs.mp nd).2 (by simpa using h1) (by simpa using h2) hk
theorem Dq{kindOf:Str->Option NameKind}{x:Str}{v:Value}:∀ {P:List Str}{vs:List Value}{i:Nat}{m:Str->Option Value},P.Nodup->P[i]?=some x->vs[i]?=some v->kindOf x≠some .local ->
  bindC kindOf (P.zip vs) m x=some v
 |[],_,_,_,_,h,_,_=>by simp at h
 |_::_,[],_,_,_,_,h,_=>by simp at h
 |p::P,w::vs,0,m,nd,h1,h2,hk=>by
  simp at h1 h2;subst h1;subst h2;show bindC kindOf ((p,w)::P.zip vs) m p=_
  unfold bindC;rw[Dm λv hv=>(Zbs.mp nd).1 (Zc1 hv).1,Zal hk];simp
 |p::P,w::vs,i+1,m,nd,h1,h2,hk=>by
  show bindC kindOf ((p,w)::P.zip vs) m x=_
  unfold bindC;exact Dq (i:=i) (Zbs.mp nd).2 (by simpa using h1) (by simpa using h2) hk
def start(N:List Str)(vs:List V):St:=vs.map some++List.replicate (N.length-vs.length) none
def KH(CX:CXT)(P:Program)(w:World)(K:Frag)(mg:Str->Option Value)(base:Heap)(N:List Str)(qual:Str)(scope:Scope)(f:Addr)(cd:Value)(A:Around)(outer:List Env)(s:Shared)(H:Hp)(E:XK):Cx where
 prog:=P
 w:=w
 K:=K
 mg:=mg
 base:=base
 A:=A.deeper (envOfC qual scope s.heap.objs.size f cd)
 N:=N
 s₀:=s
 H₀:=H
 env:=envOfC qual scope s.heap.objs.size f cd
 outer:=outer
 stack:=envOfC qual scope s.heap.objs.size f cd::outer
 ex:=[]
 calm:=true
 fn:=λ_=>true
 pn:=[]
 xe:=λe s'=>wpAny (model P w) (A.deeper (envOfC qual scope s.heap.objs.size f cd)) (leaving (envOfC qual scope s.heap.objs.size f cd) e) (λ_ s''=>CX outer H s E e s'') (λe' s''=>CX outer H s E e' s'') s'
theorem Hu{sc:Scope}{n:Nat}{x:Str}(h:sc.names.lookup x=some .cell):∃ c,(cellsFrom n sc.names []).lookup x=some c:=by
 have q:=PySem.W.cellsFrom_some sc.names n [] (.inl h);exact Option.isSome_iff_exists.mp q
theorem OD{CX:CXT}{P:Program}{w:World}{K:Frag}{mg:Str->Option Value}{base:Heap}{N ps:List Str}{qual:Str}{scope:Scope}{f:Addr}{cd:Value}{A:Around}{outer:List Env}{s s1:Shared}{H:Hp}{E:XK}{us:List Value}{vs:List V}
  (S:bu N ps scope)(hd:A.handled=none)(e0:KC P w K mg base A outer s H)(hl:vs.length=ps.length)(r:Vals vs us)
  (x:InCallC s s.heap.objs.size (bindL (envOfC qual scope s.heap.objs.size f cd).kindOf (ps.zip us) λ_=>none) (cellsFrom (s.heap.objs.size+1) scope.names []) (bindC (envOfC qual scope s.heap.objs.size f cd).kindOf (ps.zip us) λ_=>none) s1) :
  Inv (KH CX P w K mg base N qual scope f cd A outer s H E) [] (start N vs) H s1:=by
 have hpl:ps.length<=N.length:=by have:=ZaY List.length S.pre;rw[Zcx] at this;lia
 obtain⟨h1,tk,rfl,hk⟩:=x.done;have noA:∀ b:Addr,b ∉ (KH CX P w K mg base N qual scope f cd A outer s H E).ex:=λb z=>absurd (show b∈([]:List Addr) from z) (by simp)
 refine⟨⟨e0.mod,S.kind,rfl,rfl,Zan _,λy z c h1 h2=>?_,λy hy=>?_,λy c _ h=>?_,λ_=>hd,Around.frames_deeper e0.frames,.inr ⟨rfl,rfl⟩,λb z=>absurd z (noA b),e0.bs,e0.bsz,λb _ _=>noA b,λb z=>absurd z (noA b),e0.xu,e0.frf⟩,
  rfl,e0.bare,Un.kept hk,⟨_,x.toInCall.ns,λi y v h1 h2 h3=>?_⟩,λy c h=>⟨_,x.cell y c h⟩,e0.hok.fresh (Zan _),λy c h=>?_,λp hp=>absurd (show p∈([]:List (Addr×Obj)) from hp) (by simp),e0.hok.kept hk,?_⟩
 ·exact name_of_addr x.apart (ZbV h1) (ZbV h2)
 ·have hy:scope.names.lookup y=some .cell\/scope.names.lookup y=some .free:=hy;rcases hy with hy|hy
  ·exact Hu hy
  ·exact absurd rfl (S.nofree _ (ZbV hy))
 ·exact ZaA (x.above y c (ZbV h))
 ·have hi:i<vs.length:=by
   unfold start at h2;by_cases hi:i<vs.length
   ·exact hi
   ·rw[Zap (by simpa using hi)] at h2
    rw[Zbt] at h2;split at h2<;>cases h2
  have ha:vs[i]?=some v:=by
   unfold start at h2;rw[Zag (by simpa using hi),Zac] at h2
   cases e:vs[i]? with
   |none=>rw[e] at h2;cases h2
   |some a=>rw[e] at h2;cases h2;rfl
  obtain⟨u,hu,rv⟩:=r.get ha;have hp:ps[i]?=some y:=by
   rw[<-S.pre,List.getElem?_take_of_lt (by lia)];exact h1
  have ndP:ps.Nodup:=by rw[<-S.pre];exact S.nd.sublist (List.take_sublist _ _)
  refine⟨u,rv,?_⟩;rcases S.par y (Zak hp) with k|k
  ·exact .inl ⟨k,Do ndP hp hu k⟩
  ·obtain⟨c,e⟩:=Hu (n:=s.heap.objs.size+1) k;refine .inr ⟨.inl k,c,e,?_⟩;have q:=x.cell y c e;rw[Dq ndP hp hu (by show scope.names.lookup y≠_;rw[k];decide)] at q
   exact q
 ·exact e0.hok.fresh (ZaA (x.above y c (ZbV h)))
 ·unfold start;show _=N.length
  rw[Zas,Zab,ZbN];lia
theorem YC{CX:CXT}{P:Program}{w:World}{K:Frag}{mg:Str->Option Value}{base:Heap}{k:Nat}{f:Addr}{name qual:Str}{params:Arguments}{body:List Stmt}{scope:Scope}{dV kV doc pm cdv ct oc:Value}{an od:Option Addr}
  {osl:Array (Option Value)}{N ps:List Str}{sp:Sp}(lk:K.lookup f=some ⟨oc,od,.func (fnOf name qual params body scope dV kV doc pm an cdv ct),osl⟩)(hcd:codeIn K cdv qual=true)(S:bu N ps scope)
  (len:∀ vs H Q E,sp vs H Q E->vs.length=ps.length)
  (hbody:∀ (A:Around) (outer:List Env) (s:Shared) (H:Hp) (vs:List V) (Q:VK) (E:XK),fu k (A.deeper (envOfC qual scope s.heap.objs.size f cdv))->sp vs H Q E ->
   ∃ t,PSs (KH CX P w K mg base N qual scope f cdv A outer s H E) body t/\t { nx:=λ_ H'=>Q .non H',rt:=Q } (start N vs) H) :
  sI P w K mg base CX (k+1) f (fnOf name qual params body scope dV kV doc pm an cdv ct) ps sp:=by
 refine⟨len,λA outer s H args us vs Q E hr e0 hb r hsp=>?_⟩;have hl:=len _ _ _ _ hsp;have KX:K.In s.heap:=e0.mod.kin.keeps λb o e=>(e0.bs b o e).1;have lim:s.heap.NoLimit:=e0.mod.nolimit.keeps λb o e=>(e0.bs b o e).1;have hkind:∀ y∈ps.zip us,scope.names.lookup y.1=some .local\/(scope.names.lookup y.1=some .cell/\((cellsFrom (s.heap.objs.size+1) scope.names []).lookup y.1).isSome=true):=λ⟨n,v⟩ hy=>by
  rcases S.par n (Zc1 hy).1 with q|q
  ·exact .inl q
  ·exact .inr ⟨q,PySem.W.cellsFrom_some _ _ _ (.inl q)⟩
 refine codeAny_call_function hr.depth (KX _ _ lk) rfl S.co S.gen rfl (PySem.W.codeRec_of KX hcd) (hb _ _ _ _ ?_);refine wpAny_newFunctionEnv_cells S.kind hkind λenv he s1 x=>?_;subst he;refine⟨lim.keeps x.toInCall.keep,codeAny_func ?_⟩;obtain⟨t,ht,hq⟩:=hbody A outer s H vs Q E (hr.deeper _) hsp;have I:Inv (KH CX P w K mg base N qual scope f cdv A outer s H E) [] (start N vs) H s1:=OD S hr.hd e0 hl r x;refine Zbk (ht [] s1 (start N vs) H _ I hq) (λfl s' hs=>?_) λe s' hs=>hs;have fin:∀ {O':St}{H':Hp}{v:V}{u:Value},Inv (KH CX P w K mg base N qual scope f cdv A outer s H E) [] O' H' s'->RelV v u->Q v H'->CE outer P w H s Q u s':=
  λ{O' H' v u} J rv q=>⟨v,H',J.os,J.bare,J.base,J.hok,rv,q⟩
 cases fl with
 |ret u=>
  obtain⟨v,O',H',J,rv,q⟩:=hs;exact fin J rv q
 |next=>
  obtain⟨O',H',J,q⟩:=hs;exact fin (v:=V.non) (u:=Value.none) J rfl q
 |brk=>
  obtain⟨_,_,_,q⟩:=hs;exact False.elim q
 |cont=>
  obtain⟨_,_,_,q⟩:=hs;exact False.elim q
section
variable{X:Cx}{x:Str}{p pos:Pos}{e:Expr}{es:List Expr}{t:TA}{id T:String}{r:List V->Hp->VK->Prop}
def tCB(r:List V->Hp->VK->Prop)(t:TA):TE:=λO H Q=>t O H λvs H1=>r vs H1 Q
theorem bK(hc:jR X (.builtin id) r)(hg:Gl X x)(hm:X.mg x=none)(hv:bootBuiltins x=some (.builtin id))(ha:PA X (e::es) t)(hn:x≠"__name__":=by decide)(hdb:(x==("__debug__":Str))=false:=by decide)
  (he:starEach (e::es) X.env=(false,eval e X.env)::starEach es X.env:=by rfl)(hpl:(backTo pos (starEach es X.env)).any (·.1)=false:=by rfl):PE X (.Call (.Name x p) (e::es) [] pos) (tCB r t):=by
 intro pins s O H Q I h;refine wpAny_Call_Name_kw (ue I hg hm hv ?_ hn hdb);exact PyProof.Rows.callWith_builtin1 (thn (ha pos pins s O H _ I h) λus s1 ⟨vs,H1,I1,r1,q1⟩=>hc pins s1 O H1 vs us Q I1 r1 q1) he hpl
theorem nW(hc:jR X (.type T) r)(hg:Gl X x)(hm:X.mg x=none)(hv:bootBuiltins x=some (.type T))(ha:PA X (e::es) t)(hn:x≠"__name__":=by decide)(hdb:(x==("__debug__":Str))=false:=by decide)
  (he:starEach (e::es) X.env=(false,eval e X.env)::starEach es X.env:=by rfl)(hpl:(backTo pos (starEach es X.env)).any (·.1)=false:=by rfl):PE X (.Call (.Name x p) (e::es) [] pos) (tCB r t):=by
 intro pins s O H Q I h;refine wpAny_Call_Name_kw (ue I hg hm hv ?_ hn hdb);exact Zbr (thn (ha pos pins s O H _ I h) λus s1 ⟨vs,H1,I1,r1,q1⟩=>hc pins s1 O H1 vs us Q I1 r1 q1) he hpl
end
end L2
namespace HT
open PySem PyProof.Rows
section
variable{prog:Program}{w:World}{A:Around}{E:Value->Shared->Prop}{s:Shared}
theorem Us{t b:Addr}{vs ws:List Value}{Q:Value->Shared->Prop}(ht:IsTup s.heap t vs.toArray)(hb:IsTup s.heap b ws.toArray)(hv:vs≠[])
  (h1:ws=[]->Q (.ref t) s)(h2:ws≠[]->Q (.ref s.heap.objs.size) { s with heap:=s.heap.push { cls:=.type "tuple",data:=.seq (vs++ws).toArray } })
  (hsz:vs.length+ws.length<=sizeLine):wpAny (model prog w) A (binaryOp .Add (.ref t) (.ref b)) Q E s:=by
 obtain⟨⟨cls,dd,data,sl⟩,ho,hc,n,hd⟩:=id ht;obtain⟨⟨cls2,dd2,data2,sl2⟩,ho2,hc2,n2,hd2⟩:=id hb;simp only at hc hd hc2 hd2;subst hc hd hc2 hd2;have e:vs.toArray++ws.toArray=(vs++ws).toArray:=by simp
 by_cases hw:ws=[]
 ·exact concat_meets ⟨_,ho,rfl⟩ ⟨_,ho2,rfl⟩ noFill_tuple_add seq_tuple_add PySem.F.slot_tuple_add PySem.F.entry_tuple_add (PySem.F.args_tuple_add_2 _ _)
   (tuple_addW1 t b vs.toArray ws.toArray n n2 dd dd2 sl sl2 (by simpa using hv) (by simp[hw])) ⟨ho,ho2,h1 hw⟩
 ·refine concat_meets ⟨_,ho,rfl⟩ ⟨_,ho2,rfl⟩ noFill_tuple_add seq_tuple_add PySem.F.slot_tuple_add PySem.F.entry_tuple_add (PySem.F.args_tuple_add_2 _ _)
   (tuple_addW2 t b vs.toArray ws.toArray n n2 dd dd2 sl sl2 (by simpa using hv) (by simpa using hw) (by rw[List.size_toArray,List.size_toArray];exact hsz)) ⟨ho,ho2,?_⟩
  rw[e];exact h2 hw
def sIx(n d:Nat):Option Int->Nat
 |none=>d
 |some v=>if v<0 then(v+(n:Int)).toNat else min v.toNat n
theorem Mr(n d k:Nat):sIx n d (some (k:Int))=min k n:=by
 show(if(k:Int)<0 then((k:Int)+(n:Int)).toNat else min (k:Int).toNat n)=min k n
 rw[Zal (by omega),ZaD]
theorem Xb(n d:Nat)(hd:d<=n)(o:Option Int):sIx n d o<=n:=by
 cases o with
 |none=>exact hd
 |some v=>
  show(if v<0 then(v+(n:Int)).toNat else min v.toNat n)<=n
  by_cases hv:v<0
  ·rw[Zam hv];omega
  ·rw[Zal hv];exact Nat.min_le_right _ _
theorem Ms(v:Int)(n d:Nat):(if v<0 then max (v+(n:Int)) 0 else min v (n:Int))=((sIx n d (some v):Nat):Int):=by
 show(if v<0 then max (v+(n:Int)) 0 else min v (n:Int))=(((if v<0 then(v+(n:Int)).toNat else min v.toNat n):Nat):Int)
 by_cases hv:v<0
 ·simp only[Zam hv];omega
 ·simp only[Zal hv];omega
theorem KJ(lo hi:Option Int)(n:Nat):Builtin.Slice.sliceAdjust lo hi 1 (n:Int)=(((sIx n 0 lo:Nat):Int),((sIx n n hi:Nat):Int)):=by
 have h1:¬((1:Int)<0):=by omega
 unfold Builtin.Slice.sliceAdjust;simp only[h1,Zbb];refine Zc5 ?_ ?_
 ·cases lo with
  |none=>rfl
  |some v=>exact Ms v n 0
 ·cases hi with
  |none=>rfl
  |some v=>exact Ms v n n
theorem KN(i j:Nat):Builtin.Slice.slicePlaces (i:Int) (j:Int) 1=j-i:=by
 unfold Builtin.Slice.slicePlaces;have h1:(1:Int)>0:=by omega
 simp only[h1,ZbA,Int.ediv_one];split<;>omega
theorem zK{v:Value}{o:Option Int}{Q:Option Int->Shared->Prop}(p:IsPart v o)(h:Q o s):wpAny (model prog w) A (Builtin.Slice.slicePartIndex v) Q E s:=by
 cases p with
 |none=>exact slicePart_none h
 |int i t=>exact slicePart_int h
theorem xF{sl:Addr}{vl vu:Value}{lo hi:Option Int}{n:Nat}{Q:Int×Int×Nat->Shared->Prop}(hs:s.heap.IsSliceOf sl vl vu .none)(pl:IsPart vl lo)(pu:IsPart vu hi)
  (h:Q (((sIx n 0 lo:Nat):Int),1,sIx n n hi-sIx n 0 lo) s):wpAny (model prog w) A (Builtin.Slice.sliceApplied (.ref sl) (pure (n:Int))) Q E s:=by
 obtain⟨os,hos,hcs,hds⟩:=id hs;unfold Builtin.Slice.sliceApplied Builtin.Slice.sliceFields;refine Zaa (Zaa (wpAny_field hos hds (x:=vl) rfl (Zaa (wpAny_field hos hds (x:=vu) rfl (Zaa (wpAny_field hos hds (x:=.none) rfl (Zah ?_)))))));refine Zaa (slicePart_none ?_);show wpAny _ _ (if((1:Int)==0)=true then _ else _) _ _ s
 rw[Zal (by decide)]
 refine Zaa (zK pl (Zaa (zK pu (Zaa (Zah ?_)))));show wpAny _ _ (match Builtin.Slice.sliceAdjust lo hi 1 (n:Int) with|(lo,hi)=>pure (lo,(1:Int),Builtin.Slice.slicePlaces lo hi 1)) _ _ s
 rw[KJ lo hi n];show wpAny _ _ (pure (((sIx n 0 lo:Nat):Int),(1:Int),Builtin.Slice.slicePlaces ((sIx n 0 lo:Nat):Int) ((sIx n n hi:Nat):Int) 1)) _ _ s
 rw[KN];exact Zah h
theorem QK(xs:Array Value)(i k:Nat):((List.range k).filterMap λ(m:Nat)=>xs[((i:Int)+(m:Int)*1).toNat]?).toArray=((xs.toList.drop i).take k).toArray:=by
 have e:(λ(m:Nat)=>xs[((i:Int)+(m:Int)*1).toNat]?)=λm=>xs[i+m]?:=by
  funext m
  have:((i:Int)+(m:Int)*1).toNat=i+m:=by omega
  rw[this]
 rw[e];have:=pick_run xs i k;rw[List.filterMap_map] at this;have e2:((λx=>xs[x]?) ∘ λx=>i+x)=λm=>xs[i+m]?:=rfl;rw[e2] at this;rw[this]
theorem uW{t sl:Addr}{items:Array Value}{vl vu:Value}{lo hi:Option Int}{Q:Value->Shared->Prop}(ht:IsTup s.heap t items)(hs:s.heap.IsSliceOf sl vl vu .none)(pl:IsPart vl lo)(pu:IsPart vu hi)
  (hw:¬(sIx items.size 0 lo=0/\sIx items.size items.size hi=items.size))
  (h:Q (.ref s.heap.objs.size) { s with heap:=s.heap.push { cls:=.type "tuple",data:=.seq ((items.toList.drop (sIx items.size 0 lo)).take (sIx items.size items.size hi-sIx items.size 0 lo)).toArray } })
  (hsz:items.size<=sizeLine):wpAny (model prog w) A (getItem (.ref t) (.ref sl)) Q E s:=by
 have htake:sizeOk (.seq ((items.toList.drop (sIx items.size 0 lo)).take (sIx items.size items.size hi-sIx items.size 0 lo)).toArray):=by
  show((items.toList.drop (sIx items.size 0 lo)).take (sIx items.size items.size hi-sIx items.size 0 lo)).toArray.size<=sizeLine
  rw[List.size_toArray,Zcx,List.length_drop,ZaR];omega
 have hj:sIx items.size items.size hi<=items.size:=Xb _ _ (Zan _) hi;obtain⟨os,hos,hcs,hds⟩:=id hs;have hTs:s.TypeIs (.ref sl) "slice":=⟨os,hos,hcs⟩;unfold getItem
 try with_reducible refine wpAny_holding ?_
 first|refine Zaa (Zah ?_)|skip
 refine Zaa (wpAny_sequenceKey ht.typeIs (by decide) ?_)
 refine Zaa (wpAny_callSpecial?_slot (name:=Str.ofString "__getitem__") ht.typeIs ZbT
  (wpAny_call_entry ZbT ht.typeIs entry_tuple_getitem ?_ (args_tuple_getitem _ _)))
 show wpAny _ _ (Builtin.Tuple.tupleItemsOf (.ref t)>>=_) _ _ s
 refine Zaa (tupleItemsOf_ ht ?_);refine Zaa (wpAny_typeOf hTs ?_);rw[Zam (by decide)]
 refine Zaa (xF hs pl pu ?_);have hno:¬((((sIx items.size 0 lo:Nat):Int)==0&&(1:Int)==1&&(sIx items.size items.size hi-sIx items.size 0 lo)==items.size)=true):=by
  intro q;rw[Zcy,Zcy] at q;have q1:((sIx items.size 0 lo:Nat):Int)=0:=eq_of_beq q.1.1;have q2:sIx items.size items.size hi-sIx items.size 0 lo=items.size:=eq_of_beq q.2;exact hw ⟨by omega,by omega⟩
 show wpAny _ _ (if(((sIx items.size 0 lo:Nat):Int)==0&&(1:Int)==1&&(sIx items.size items.size hi-sIx items.size 0 lo)==items.size)=true then _ else _) _ _ s
 rw[Zal hno,QK]
 first
  |exact Zaa (m:=Builtin.Tuple.tupleExact _) (Za0 (Zah ⟨_,rfl,Zah h⟩) htake)
  |exact Zaa (m:=Builtin.Tuple.tupleExact _) (Za0 (Zaa (Zah (Zah ⟨_,rfl,Zah h⟩))) htake)
  |exact Zaa (Zaa (m:=Builtin.Tuple.tupleExact _) (Za0 (Zah (Zah ⟨_,rfl,Zah h⟩)) htake))
  |exact Zaa (Zaa (m:=Builtin.Tuple.tupleExact _) (Za0 (Zah ⟨_,rfl,Zah h⟩) htake))
end
end HT
namespace L2
open PySem PySem.Spec PyProof.Rows
noncomputable abbrev TO:=St->Hp->(Option Int->Hp->Prop)->Prop
def PO(X:Cx)(e:Option Expr)(t:TO):Prop:=
 ∀ (pins:List (Addr×Obj)) (s:Shared) (O:St) (H:Hp) (Q:Option Int->Hp->Prop),Inv X pins O H s->t O H Q ->
  wpAny (model X.prog X.w) X.A (evalPart e X.env) (λu s'=>∃ o H',Inv X pins O H' s'/\IsPart u o/\Q o H') X.xe s
def Mu:TO:=λ_ H Q=>Q none H
def V7(t:TE):TO:=λO H Q=>t O H λx H1=>∃ i,x=.int i/\Q (some i) H1
section
variable{X:Cx}{e:Expr}{te:TE}{lo hi:Option Expr}{tl th:TO}{pos p2:Pos}
theorem Fd:PO X none Mu:=by
 intro pins s O H Q I h;rw[evalPart_none];exact Zah ⟨none,H,I,.none,h⟩
theorem uX(h:PE X e te):PO X (some e) (V7 te):=by
 intro pins s O H Q I hw;rw[evalPart_some];refine thn (h pins s O H _ I hw) ?_;rintro u s1 ⟨x,H1,I1,r1,q1⟩;obtain⟨i,rfl,q⟩:=q1;obtain⟨t,rfl⟩:=r1;exact⟨some i,H1,I1,.int i t,q⟩
def SlR(X:Cx)(r:V->Option Int->Option Int->Hp->VK->Prop):Prop:=
 ∀ (pins:List (Addr×Obj)) (s:Shared) (O:St) (H:Hp) (x:V) (v vl vu:Value) (lo hi:Option Int) (sl:Addr) (Q:VK),Inv X pins O H s->RelV x v->s.heap.IsSliceOf sl vl vu .none->IsPart vl lo->IsPart vu hi->r x lo hi H Q ->
  ∃ T id,typeLookup (.type T) "__getitem__"=pure (some (.builtin id))/\s.TypeIs v T/\wpAny (model X.prog X.w) X.A (getItem v (.ref sl)) (EP X pins O Q) X.xe s
theorem SlR.or{r r':V->Option Int->Option Int->Hp->VK->Prop}(h:SlR X r)(h':SlR X r'):SlR X (λx lo hi H Q=>r x lo hi H Q\/r' x lo hi H Q):=by
 intro pins s O H x v vl vu lo hi sl Q I rx hs pl pu q;rcases q with q|q
 ·exact h pins s O H x v vl vu lo hi sl Q I rx hs pl pu q
 ·exact h' pins s O H x v vl vu lo hi sl Q I rx hs pl pu q
def tSl(r:V->Option Int->Option Int->Hp->VK->Prop)(te:TE)(tl th:TO):TE:=λO H Q=>te O H λx H1=>tl O H1 λl H2=>th O H2 λu H3=>r x l u H3 Q
theorem uY{r:V->Option Int->Option Int->Hp->VK->Prop}(hr:SlR X r)(he:PE X e te)(hl:PO X lo tl)(hu:PO X hi th):PE X (.Subscript e (.Slice lo hi none p2) pos) (tSl r te tl th):=by
 intro pins s O H Q I h;refine Subscript_ (thn (he pins s O H _ I h) ?_);rintro v s1 ⟨x,H1,I1,r1,q1⟩;refine wpAny_Slice (thn (hl pins s1 O H1 _ I1 q1) λvl s2 ⟨l,H2,I2,pl,q2⟩=>thn (hu pins s2 O H2 _ I2 q2) ?_);rintro vu s3 ⟨u,H3,I3,pu,q3⟩;rw[evalPart_none];refine Zah ?_;have I4:Inv X pins O H3 { s3 with heap:=s3.heap.push { cls:=.type "slice",data:=.fields #[vl,vu,.none] } }:=I3.kept (t':=s3.toks) λb ob q=>Zaj _ q;obtain⟨T,id,hT,ht,hg⟩:=hr pins { s3 with heap:=s3.heap.push { cls:=.type "slice",data:=.fields #[vl,vu,.none] } } O H3 x v vl vu l u s3.heap.objs.size Q I4 r1 (Heap.IsSliceOf.new ..) pl pu q3;show wpAny (model X.prog X.w) X.A (subscriptTail e (.Slice lo hi none p2) v (.ref s3.heap.objs.size)) (EP X pins O Q) X.xe { s3 with heap:=s3.heap.push { cls:=.type "slice",data:=.fields #[vl,vu,.none] } }
 exact tail_any (ops:=[.ref s3.heap.objs.size,v]) ht hT hg (by with_unfolding_all rfl)
def Fe(xs:List V)(lo hi:Option Int):List V:=(xs.drop (HT.sIx xs.length 0 lo)).take (HT.sIx xs.length xs.length hi-HT.sIx xs.length 0 lo)
theorem yp(xs:List V)(lo hi:Option Int):(Fe xs lo hi).length<=xs.length:=by
 unfold Fe;rw[Zcx,List.length_drop];omega
def YD(K:Frag):V->Option Int->Option Int->Hp->VK->Prop:=λx lo hi H Q=>∃ a xs,x=.ref a/\SqT K H a xs /\
 ¬(HT.sIx xs.length 0 lo=0/\HT.sIx xs.length xs.length hi=xs.length)/\∀ p,H p=none->Q (.ref p) (upd H p (.tup (Fe xs lo hi)))
theorem QL:SlR X (YD X.K):=by
 intro pins s O H x v vl vu lo hi sl Q I rx hs pl pu h;obtain⟨a,xs,rfl,hx,hw,q⟩:=h;cases rx;obtain⟨its,r,ht,hz⟩:=I.tuple hx;have hlen:its.toArray.size=xs.length:=by rw[List.size_toArray];exact r.length.symm
 refine⟨"tuple",_,ZbT.lookup,ht.typeIs,?_⟩;refine HT.uW ht hs pl pu (by rw[hlen];exact hw) ?_ (by rw[hlen];exact hz)
 rw[hlen];refine⟨.ref s.heap.objs.size,_,I.laid (t':=s.toks) (o:=.tup (Fe xs lo hi)) (λb ob q=>Zaj _ q) (Zan _) ?_,rfl,q _ (I.hok.fresh (Zan _))⟩;exact⟨ZaI (yp xs lo hi) hz,_,(r.drop (HT.sIx xs.length 0 lo)).take (HT.sIx xs.length xs.length hi-HT.sIx xs.length 0 lo),gb.new _ _⟩
def V8(K:Frag):R2:=λx y H Q=>∃ a b xs ys,x=.ref a/\y=.ref b/\SqT K H a xs/\SqT K H b ys/\xs≠[]/\xs.length+ys.length<=sizeLine /\
 (ys=[]->Q (.ref a) H)/\(ys≠[]->∀ p,H p=none->Q (.ref p) (upd H p (.tup (xs++ys))))
theorem Vals.Ff{xs:List V}{us:List Value}(r:Vals xs us):us=[]↔xs=[]:=by
 cases r with
 |nil=>simp
 |cons _ _=>simp
theorem Ut:OpR X (binaryOp .Add) (V8 X.K):=by
 intro pins s O H x y v u Q I rx ry h;obtain⟨a,b,xs,ys,rfl,rfl,ha,hb,hx,hz,q1,q2⟩:=h;cases rx;cases ry;obtain⟨its,r1,p1,_⟩:=I.tuple ha;obtain⟨its2,r2,p2,_⟩:=I.tuple hb;refine HT.Us p1 p2 (λz=>hx (r1.Ff.mp z)) (λz=>⟨.ref a,H,I,rfl,q1 (r2.Ff.mp z)⟩) (λz=>?_) (by rw[<-r1.length,<-r2.length];exact hz)
 refine⟨.ref s.heap.objs.size,_,I.laid (t':=s.toks) (o:=.tup (xs++ys)) (λb ob q=>Zaj _ q) (Zan _) ?_,rfl,q2 (λw=>z (r2.Ff.mpr w)) _ (I.hok.fresh (Zan _))⟩;exact⟨by rw[Zas];exact hz,_,r1.append r2,gb.new _ _⟩
end
def ixN(n:Nat)(i:Int):Option Nat:=if 0<=i then(if i<n then some i.toNat else none) else if -(n:Int)<=i then some (i+n).toNat else none
def atI{α:Type}(xs:List α)(i:Int):Option α:=(ixN xs.length i).bind λj=>xs[j]?
theorem Uu{n:Nat}{i:Int}{j:Nat}(h:ixN n i=some j):seqIndex? i n=some j/\j<n/\-(n:Int)<=i/\i<n:=by
 unfold ixN at h;by_cases h0:0<=i
 ·rw[Zam h0] at h;by_cases h1:i<n
  ·rw[Zam h1] at h;have e:i.toNat=j:=Zaf h;exact⟨by rw[seqIndex_of h0 h1,e],by lia,by lia,h1⟩
  ·rw[Zal h1] at h;cases h
 ·rw[Zal h0] at h;by_cases h1:-(n:Int)<=i
  ·rw[Zam h1] at h;have e:(i+n).toNat=j:=Zaf h;exact⟨by rw[seqIndex_neg (by lia) h1,e],by lia,h1,by lia⟩
  ·rw[Zal h1] at h;cases h
theorem Fg{α:Type}{xs:List α}{i:Int}{v:α}(h:atI xs i=some v):∃ j,seqIndex? i xs.length=some j/\xs[j]?=some v/\j<xs.length/\-(xs.length:Int)<=i/\i<xs.length:=by
 unfold atI at h;cases e:ixN xs.length i with
 |none=>rw[e] at h;cases h
 |some j=>
  rw[e] at h;obtain⟨h1,h2,h3,h4⟩:=Uu e;exact⟨j,h1,h,h2,h3,h4⟩
theorem mU{α:Type}{xs:List α}{j:Nat}{v:α}(h:xs[j]?=some v):atI xs (j:Int)=some v:=by
 have hj:j<xs.length:=(Zad.mp h).1;have e:ixN xs.length (j:Int)=some j:=by
  unfold ixN;rw[Zam (by lia),Zam (by lia)];simp
 unfold atI;rw[e];exact h
def Uv(b:Expr):Prop:=∀ o i,subscripted b false o i=operate [o,i] (getItem o i)
def IxR(X:Cx)(r:R2):Prop:=
 ∀ (value slice:Expr) (pins:List (Addr×Obj)) (s:Shared) (O:St) (H:Hp) (x y:V) (v u:Value) (Q:VK),Inv X pins O H s->RelV x v->RelV y u->r x y H Q ->
  subscripted slice false v u=operate [v,u] (getItem v u)->wpAny (model X.prog X.w) X.A (subscriptTail value slice v u) (EP X pins O Q) X.xe s
def MtR(X:Cx)(id:String)(r:V->List V->Hp->VK->Prop):Prop:=
 ∀ (pins:List (Addr×Obj)) (s:Shared) (O:St) (H:Hp) (x:V) (xs:List V) (v:Value) (us:List Value) (Q:VK),Inv X pins O H s->RelV x v->Vals xs us->r x xs H Q ->
  wpAny (model X.prog X.w) X.A (call (.builtin id) (v::us)) (EP X pins O Q) X.xe s
section
variable{X:Cx}{a b:Expr}{ta tb:TE}{pos:Pos}
theorem IxR.or{r r':R2}(h:IxR X r)(h':IxR X r'):IxR X (λx y H Q=>r x y H Q\/r' x y H Q):=by
 intro value slice pins s O H x y v u Q I rx ry q hs;rcases q with q|q
 ·exact h value slice pins s O H x y v u Q I rx ry q hs
 ·exact h' value slice pins s O H x y v u Q I rx ry q hs
theorem MtR.or{id:String}{r r':V->List V->Hp->VK->Prop}(h:MtR X id r)(h':MtR X id r'):MtR X id (λx xs H Q=>r x xs H Q\/r' x xs H Q):=by
 intro pins s O H x xs v us Q I rx rs q;rcases q with q|q
 ·exact h pins s O H x xs v us Q I rx rs q
 ·exact h' pins s O H x xs v us Q I rx rs q
theorem bc{r:R2}(hr:IxR X r)(ha:PE X a ta)(hb:PE X b tb)(hs:Uv b):PE X (.Subscript a b pos) (tOp r ta tb):=by
 intro pins s O H Q I h;exact Subscript_ (WY ha hb I h λv u s2 x y H2 I2 rx ry q=>hr a b pins s2 O H2 x y v u Q I2 rx ry q (hs _ _))
def YF(K:Frag):R2:=λx y H Q=>∃ p xs i v,x=.ref p/\y=.int i/\SqL K H p xs/\atI xs i=some v/\Q v H
def YG(K:Frag):R2:=λx y H Q=>∃ p xs i v,x=.ref p/\y=.int i/\SqT K H p xs/\atI xs i=some v/\Q v H
def YH:R2:=λx y H Q=>∃ z i c,x=.str z/\y=.int i/\z.length<=sizeLine/\atI z.cps.toList i=some c/\Q (.str ⟨#[c]⟩) H
theorem Uw:IxR X (YF X.K):=by
 intro value slice pins s O H x y v u Q I rx ry h hs;obtain⟨p,xs,i,z,rfl,rfl,hq,he,q⟩:=h;cases rx;obtain⟨t,rfl⟩:=ry;obtain⟨its,r,pl,hz⟩:=I.list hq;obtain⟨j,h1,h2,h3,h4,h5⟩:=Fg he;obtain⟨w,ew,rw'⟩:=r.get h2;have hl:=r.length;have hn:=Fb;have fin:EP X pins O Q w s:=⟨z,H,I,rw',q⟩;by_cases h0:0<=i
 ·have hj:i.toNat=j:=by
   rw[seqIndex_of h0 h5] at h1;exact Zaf h1
  exact item_listR pl.isList h0 (by lia) (by rw[hj];simpa using ew) fin hs
 ·have hj:(i+(its.toArray.size:Int)).toNat=j:=by
   rw[seqIndex_neg (by lia) h4] at h1
   rw[List.size_toArray,<-hl];exact Zaf h1
  exact subscriptTail_builtinR (x:=w) pl.isList.typeIs slot_list_getitem.lookup
   (wpAny_getItem_list_neg (Q:=λr s'=>r=w/\EP X pins O Q r s') pl.isList (by lia) (by rw[List.size_toArray]<;>lia) (by lia) (by rw[hj];simpa using ew) ⟨rfl,fin⟩) hs
theorem Xc:IxR X (YG X.K):=by
 intro value slice pins s O H x y v u Q I rx ry h hs;obtain⟨p,xs,i,z,rfl,rfl,hq,he,q⟩:=h;cases rx;obtain⟨t,rfl⟩:=ry;obtain⟨its,r,pl,hz⟩:=I.tuple hq;obtain⟨j,h1,h2,h3,h4,h5⟩:=Fg he;obtain⟨w,ew,rw'⟩:=r.get h2;have hl:=r.length;have hn:=Fb;have fin:EP X pins O Q w s:=⟨z,H,I,rw',q⟩;exact subscriptTail_builtinR (x:=w) pl.typeIs slot_tuple_getitem.lookup
  (getItem_tuple (j:=j) (Q:=λr s'=>r=w/\EP X pins O Q r s') pl (by omega) (by omega) (by rw[List.size_toArray,<-hl];exact h1) (by simpa using ew) ⟨rfl,fin⟩) hs
theorem Xd:IxR X YH:=by
 intro value slice pins s O H x y v u Q I rx ry h hs;obtain⟨z,i,c,rfl,rfl,hz,he,q⟩:=h;obtain⟨t,rfl⟩:=rx;obtain⟨t',rfl⟩:=ry;obtain⟨j,h1,h2,h3,h4,h5⟩:=Fg he;have hl:z.cps.toList.length=z.length:=by simp[Str.length]
 rw[hl] at h1 h4 h5;have hn:=Fb;exact tail_any (typeIs_str s z t) slot_str_getitem.lookup (getItem_str (c:=c) (by
  have e1:decide (i < -(2^63:Int))=false:=ZaH (by lia)
  have e2:decide (i>=2^63)=false:=ZaH (by lia)
  rw[e1,e2,Bool.or_false]) (by rw[h1];simpa using h2) ⟨.str ⟨#[c]⟩,H,I.tok _,⟨_,rfl⟩,q⟩) hs
def rIx(K:Frag):R2:=λx y H Q=>YF K x y H Q\/YG K x y H Q\/YH x y H Q
theorem aX:IxR X (rIx X.K):=Uw.or (Xc.or Xd)
theorem Inv.lst{pins:List (Addr×Obj)}{O:St}{H:Hp}{s:Shared}{p:Addr}{xs:List V}(I:Inv X pins O H s)(h:H p=some (.lst xs)) :
  ∃ (its:List Value) (n:Nat),Vals xs its/\s.heap.get? p=some { cls:=.type "list",data:=.seq its.toArray n }/\xs.length<=sizeLine:=by
 obtain⟨z,its,n,r,e⟩:=I.hok p _ h;exact⟨its,n,r,e,z⟩
theorem Fi(lo hi:Option Int)(n:Nat):(sliceBounds lo hi none n).1=((HT.sIx n 0 lo:Nat):Int)/\(sliceBounds lo hi none n).2.1=((HT.sIx n n hi:Nat):Int)/\(sliceBounds lo hi none n).2.2=1:=by
 refine⟨?_,?_,rfl⟩
 ·cases lo with
  |none=>simp[sliceBounds,HT.sIx]
  |some i=>
   simp only[sliceBounds,HT.sIx,Option.getD_none,show(1:Int)>0 by decide,ZbA]
   by_cases h:i<0
   ·simp only[h,ZbA]<;>lia
   ·simp only[h,Zbb]<;>lia
 ·cases hi with
  |none=>simp[sliceBounds,HT.sIx]
  |some i=>
   simp only[sliceBounds,HT.sIx,Option.getD_none,show(1:Int)>0 by decide,ZbA]
   by_cases h:i<0
   ·simp only[h,ZbA]<;>lia
   ·simp only[h,Zbb]<;>lia
theorem Cw(its:List Value)(lo hi:Option Int):slicePick its.toArray lo hi none=((its.drop (HT.sIx its.length 0 lo)).take (HT.sIx its.length its.length hi-HT.sIx its.length 0 lo)).toArray:=by
 obtain⟨h1,h2,h3⟩:=Fi lo hi its.toArray.size;unfold slicePick;rw[h1,h2,h3];simp only[sliceRange_one,pick_run,List.size_toArray]<;>rfl
def YJ(K:Frag):V->Option Int->Option Int->Hp->VK->Prop:=λx lo hi H Q=>∃ a xs,x=.ref a/\SqL K H a xs/\∀ p,H p=none->Q (.ref p) (upd H p (.lst (Fe xs lo hi)))
theorem Mv:SlR X (YJ X.K):=by
 intro pins s O H x v vl vu lo hi sl Q I rx hs pl pu h;obtain⟨a,xs,rfl,hx,q⟩:=h;cases rx;obtain⟨its,r,ht,hz⟩:=I.list hx;have hlen:=r.length;refine⟨"list",_,slot_list_getitem.lookup,ht.isList.typeIs,?_⟩;refine wpAny_getItem_list_slice ht.isList hs pl pu .none (by simp) ?_ (by rw[List.size_toArray]<;>lia)
 rw[Cw,<-hlen];refine⟨.ref s.heap.objs.size,_,I.laid (t':=s.toks) (o:=.lst (Fe xs lo hi)) (λb ob q=>Zaj _ q) (Zan _) ?_,rfl,q _ (I.hok.fresh (Zan _))⟩;exact⟨ZaI (yp xs lo hi) hz,_,0,(r.drop (HT.sIx xs.length 0 lo)).take (HT.sIx xs.length xs.length hi-HT.sIx xs.length 0 lo),Zar _ rfl⟩
def ZV:V->Bool
 |.non=>true
 |.bl _=>true
 |.int _=>true
 |.str _=>true
 |_=>false
def eqV:V->V->Bool
 |.non,.non=>true
 |.bl a,.bl b=>a==b
 |.bl a,.int b=>(if a then 1 else 0)==b
 |.int a,.bl b=>a==(if b then 1 else 0)
 |.int a,.int b=>a==b
 |.str a,.str b=>a==b
 |_,_=>false
theorem jR.or{f:Value}{r r':List V->Hp->VK->Prop}(h:jR X f r)(h':jR X f r'):jR X f (λxs H Q=>r xs H Q\/r' xs H Q):=by
 intro pins s O H xs us Q I rs q;rcases q with q|q
 ·exact h pins s O H xs us Q I rs q
 ·exact h' pins s O H xs us Q I rs q
theorem uZ:jR X (.type "list") (λxs H Q=>∃ p ys,xs=[.ref p]/\(SqL X.K H p ys\/SqT X.K H p ys)/\∀ l,H l=none->Q (.ref l) (upd H l (.lst ys))):=by
 intro pins s O H xs us Q I r h;obtain⟨p,ys,rfl,hq,q⟩:=h;obtain⟨u,rfl,rx⟩:=vals1 r;cases rx;have fin:∀ (its:List Value),Vals ys its->ys.length<=sizeLine->∀ (h':Heap) (c':Nat),(∀ b o',s.heap.get? b=some o'->h'.get? b=some o') ->
   h'.get? s.heap.objs.size=some { cls:=.type "list",dict:=none,data:=.seq its.toArray c',slots:=#[] }->EP X pins O Q (.ref s.heap.objs.size) { s with heap:=h' }:=λits r' hz h' c' kp e=>
  ⟨.ref s.heap.objs.size,_,I.laid (t':=s.toks) kp (Zan _) (show dG X.prog X.w _ h' _ (.lst ys) from⟨hz,its,c',r',e⟩),rfl,q _ (I.hok.fresh (Zan _))⟩
 rcases hq with hq|hq
 ·obtain⟨its,r',pl,hz⟩:=I.list hq;have hlen:=r'.length;obtain⟨o,ho,hc,n,hd⟩:=pl.isList;exact call_list_seq p (.inl rfl) ho hc hd (λh' c' kp e=>fin its r' hz h' c' kp e) (by simp only[List.size_toArray]<;>omega)
 ·obtain⟨its,r',pl,hz⟩:=I.tuple hq;have hlen:=r'.length;obtain⟨o,ho,hc,n,hd⟩:=pl;exact call_list_seq p (.inr rfl) ho hc hd (λh' c' kp e=>fin its r' hz h' c' kp e) (by simp only[List.size_toArray]<;>omega)
def tyV(K:Frag)(T:String)(x:V)(H:Hp):Prop:=match x with
 |.str _=>T="str"
 |.int _=>T="int"
 |.ref p=>(T="list"/\∃ xs,SqL K H p xs)\/(T="tuple"/\∃ o,K.lookup p=some o/\o.cls=.type "tuple"/\o.dict=none) \/
   (T="dict"/\((∃ kvs,H p=some (.dK kvs))\/∃ kvs,H p=some (.dT kvs)))\/(T="set"/\∃ S n,H p=some (.set S n))
 |_=>False
theorem Xe{pins:List (Addr×Obj)}{O:St}{H:Hp}{s:Shared}{T:String}{x:V}{v:Value}(I:Inv X pins O H s)(r:RelV x v)(ty:tyV X.K T x H) :
  s.TypeIs v T/\∀ a,v=.ref a->∃ ob,s.heap.get? a=some ob/\ob.dict=none:=by
 cases x with
 |str z=>
  obtain⟨t,rfl⟩:=r;cases (show T="str" from ty);exact⟨typeIs_str s z t,λ_ e=>nomatch e⟩
 |int i=>
  obtain⟨t,rfl⟩:=r;cases (show T="int" from ty);exact⟨typeIs_int s i t,λ_ e=>nomatch e⟩
 |ref p=>
  cases r;rcases ty with⟨rfl,xs,hq⟩|⟨rfl,o,hk,hc,hd⟩|⟨rfl,hk⟩|⟨rfl,S,n,hk⟩
  ·obtain⟨its,_,pl,_⟩:=I.list hq;refine⟨pl.isList.typeIs,λa e=>?_⟩;cases e;obtain⟨o,n,e,c,hd,_⟩:=pl;exact⟨o,e,hd⟩
  ·refine⟨⟨o,I.kIn p o hk,hc⟩,λa e=>?_⟩;cases e;exact⟨o,I.kIn _ o hk,hd⟩
  ·have z:∃ o,s.heap.get? p=some o/\o.ExactDict:=by
    rcases hk with⟨kvs,hk⟩|⟨kvs,hk⟩
    ·obtain⟨_,_,_,_,o,_,_,e,ex,_⟩:=I.hok p _ hk;exact⟨o,e,ex⟩
    ·obtain⟨_,_,_,_,o,_,_,e,ex,_⟩:=I.hok p _ hk;exact⟨o,e,ex⟩
   obtain⟨o,e,ex⟩:=z;refine⟨⟨o,e,ex.1⟩,λa e2=>?_⟩;cases e2;exact⟨o,e,ex.2.1⟩
  ·obtain⟨o,_,_,_,e,ex,_⟩:=I.hok p _ hk;refine⟨⟨o,e,ex.1⟩,λa e2=>?_⟩;cases e2;exact⟨o,e,ex.2.1⟩
 |_=>exact False.elim ty
def tBM(K:Frag)(T:String)(r:V->List V->Hp->VK->Prop)(to:TE)(t:TA):TE:=λO H Q=>to O H λx H1=>tyV K T x H1/\t O H1 λxs H2=>r x xs H2 Q
variable{o e:Expr}{es:List Expr}{to:TE}{t:TA}{name:Str}{apos cpos:Pos}{T id:String}{r:V->List V->Hp->VK->Prop}
theorem yr(pa:PlainAttrs T)(slot:Slot T name id)(hty:typeOf (.builtin id)=pure (.type "method_descriptor"))(hm:MtR X id r)(ho:PE X o to)(ha:PA X (e::es) t)
  (hbase:attributeBase o name X.env (eval o X.env)=eval o X.env:=by rfl)
  (hfew:((backTo cpos (starEach (e::es) X.env)).all (λx=>!x.1)&&(backToKw cpos (keywordEach [] X.env)).all (λx=>x.1.isSome)
   && decide ((e::es).length+([]:List Keyword).length+(if([]:List Keyword).isEmpty then 0 else 1)<30))=true:=by rfl)
  (hline:(apos.endLine==cpos.line)=true:=by rfl)(hs:starEach (e::es) X.env=(false,eval e X.env)::starEach es X.env:=by rfl)(hplain:(backTo cpos (starEach es X.env)).any (·.1)=false:=by rfl) :
  PE X (.Call (.Attribute o name apos) (e::es) [] cpos) (tBM X.K T r to t):=by
 intro pins s O H Q I h;refine wpAny_Call_method_late hbase hfew hline rfl (thn (ho pins s O H _ I h) ?_);rintro v s1 ⟨x,H1,I1,r1,ty,q1⟩;obtain⟨h1,h2⟩:=Xe I1 r1 ty;refine⟨T,id,pa,slot,hty,h1,h2,?_⟩;have hA:=ha cpos pins s1 O H1 _ I1 q1;rw[hs] at hA ⊢;refine ZbZ (by show(false||(backTo cpos (starEach es X.env)).any (·.1))=false;rw[hplain]<;>rfl) (Zb9 ?_)
 exact thn hA λus s2 ⟨vs,H2,I2,r2,q2⟩=>hm pins s2 O H2 x vs v us Q I2 r1 r2 q2
end
def MtM(X:Cx)(id:String)(r:V->List V->Hp->VK->Prop):Prop:=
 ∀ (pins:List (Addr×Obj)) (s:Shared) (O:St) (H:Hp) (x:V) (xs:List V) (v:Value) (us:List Value) (Q:VK),Inv X pins O H s->RelV x v->Vals xs us->r x xs H Q ->
  wpAny (model X.prog X.w) X.A (call (.builtin id) (v::us)) (EP X pins O Q) X.xe s
theorem Vals.one:∀ {x:V}{us:List Value},Vals [x] us->∃ u,us=[u]/\RelV x u
 |_,_,.cons r .nil=>⟨_,rfl,r⟩
theorem Vals.two:∀ {x y:V}{us:List Value},Vals [x,y] us->∃ u v,us=[u,v]/\RelV x u/\RelV y v
 |_,_,_,.cons r (.cons q .nil)=>⟨_,_,rfl,r,q⟩
theorem Vals.zero:∀ {us:List Value},Vals [] us->us=[]
 |_,.nil=>rfl
theorem Vals.rep{xs:List V}{us:List Value}(h:Vals xs us):∀ k:Nat,Vals (List.replicate k xs).flatten (List.replicate k us).flatten
 |0=>.nil
 |k+1=>by
  rw[ZbH,ZbH,ZbE,ZbE];exact Vals.append h (Vals.rep h k)
section
variable{X:Cx}{pins:List (Addr×Obj)}{O:St}{H:Hp}{s:Shared}{l:Addr}{xs ys:List V}
theorem Inv.YK{its its':List Value}{n:Nat}{f:Array Value->Array Value}{t':Nat}(I:Inv X pins O H s)(hH:H l=some (.lst xs))
  (e:s.heap.get? l=some { cls:=.type "list",data:=.seq its.toArray n })(hf:f its.toArray=its'.toArray)(hv:Vals ys its')(hz:ys.length<=sizeLine) :
  Inv X pins O (upd H l (.lst ys)) { s with heap:=s.heap.update l (Obj.mapSeq f),toks:=t' }:=by
 have q:=PySem.IsL.update e f;rw[hf] at q;refine I.write (x:=l) (e:=l) (by rw[hH];exact trivial) (.inl rfl) (λb' u hb hu=>(Heap.get?_update_other s.heap (Obj.mapSeq f) (Zbl hb)).trans hu) ⟨_,q⟩ ?_
 exact⟨hz,its',_,hv,q⟩
theorem Inv.ZF{its:List Value}{t':Nat}(I:Inv X pins O H s)(hv:Vals ys its)(hz:ys.length<=sizeLine) :
  Inv X pins O (upd H s.heap.objs.size (.lst ys)) { s with heap:=s.heap.push { cls:=.type "list",data:=.seq its.toArray },toks:=t' }:=
 I.laid (λ_ _ q=>Zaj _ q) (Zan _) ⟨hz,its,0,hv,Zar _ rfl⟩
theorem Inv.fresh(I:Inv X pins O H s):H s.heap.objs.size=none:=I.hok.fresh (Zan _)
theorem Inv.Xf(I:Inv X pins O H s)(hH:H l=some (.lst xs)):xs.length<=sizeLine/\∃ (its:List Value) (n:Nat),Vals xs its/\xs.length=its.length/\s.heap.get? l=some { cls:=.type "list",data:=.seq its.toArray n }:=by
 obtain⟨z,its,n,r,e⟩:=I.hok l _ hH;exact⟨z,its,n,r,r.length,e⟩
theorem QM{n:Nat}(h:n<=sizeLine):Builtin.List.listTooLong n=false:=by
 unfold Builtin.List.listTooLong;exact ZaH (by omega)
end
section
variable{X:Cx}
def u5:V->List V->Hp->VK->Prop:=λx vs H Q=>∃ l xs y,x=.ref l/\vs=[y]/\H l=some (.lst xs)/\xs.length<sizeLine/\Q .non (upd H l (.lst (xs++[y])))
theorem iR:MtM X "list.append" u5:=by
 intro pins s O H x vs v us Q I rx rv h;obtain⟨l,xs,y,rfl,rfl,hH,hz,q⟩:=h;cases rx;obtain⟨u,rfl,ru⟩:=rv.one;obtain⟨z,its,n,r,hl,e⟩:=I.Xf hH;refine call_meets F.slot_list_append ⟨_,e,rfl⟩ F.entry_list_append (F.args_list_append_2 _ _) (PySem.list_append l its.toArray n u (by rw[List.size_toArray];lia)) ⟨e,?_⟩
 refine⟨.non,_,I.YK (its':=its++[u]) hH e (by simp) (r.append (.cons ru .nil)) ?_,rfl,q⟩
 rw[Zas,List.length_singleton];lia
def Mw:V->List V->Hp->VK->Prop:=λx vs H Q=>∃ l b xs zs,x=.ref l/\vs=[.ref b]/\H l=some (.lst xs)/\H b=some (.lst zs)/\xs.length+zs.length<=sizeLine/\Q .non (upd H l (.lst (xs++zs)))
theorem OJ:MtM X "list.extend" Mw:=by
 intro pins s O H x vs v us Q I rx rv h;obtain⟨l,b,xs,zs,rfl,rfl,hH,hB,hz,q⟩:=h;cases rx;obtain⟨u,rfl,ru⟩:=rv.one;cases ru;obtain⟨z,its,n,r,hl,e⟩:=I.Xf hH;obtain⟨z2,its2,n2,r2,hl2,e2⟩:=I.Xf hB;have hsz:its.toArray.size+its2.toArray.size<=sizeLine:=by rw[List.size_toArray,List.size_toArray];omega
 have hlong:¬(!its.toArray.isEmpty&&Builtin.List.listTooLong (its.toArray.size+its2.toArray.size))=true:=by
  rw[QM hsz,Zc6];exact Zbe
 refine call_meets F.slot_list_extend ⟨_,e,rfl⟩ F.entry_list_extend (F.args_list_extend_2 _ _)
  (AutoSeq1.list_extend_list_list_0 l its.toArray n b its2.toArray n2 hlong (by rw[List.size_toArray];omega) (by omega)) ⟨e,e2,?_⟩
 refine⟨.non,_,I.YK (its':=its++its2) hH e (by simp) (r.append r2) ?_,rfl,q⟩
 rw[Zas];omega
end
end L2
namespace Att
open PySem PySem.W PySem.Calls PyProof.Rows
theorem yO{P:Params}{h:Heap}:∀ (ns:List Int) (vs:List Value),WellAll P h vs (ns.map WData.int)->IntsAre vs ns:=by
 intro ns;induction ns with
 |nil=>
  intro vs w;rw[Zcu] at w;cases w;exact .nil
 |cons n ns ih=>
  intro vs w;rw[Zaq] at w;cases w with
  |cons a b=>
   cases a;exact .cons _ _ (ih _ b)
theorem O1{l:OpenLaw}{n:Nat}(hn:l.most=some n){P:Params}{h:Heap}{args:List WData}{vals:List Value}
  (hpre:l.row.toRowW.claim.pre args=true)(hwl:WellAll P h vals args) :
  ∃ a vs ns,vals=[Value.ref a]/\args=[WData.list (ns.map WData.int)]/\h.get? a=some { cls:=.type "list",data:=.seq vs.toArray }/\IntsAre vs ns/\ns.length<=n:=by
 have hsh:WShape.hasAll [] args [.list .int]=true:=(pre_splitW hpre).1;have hc:l.pre.holds [] { args:=args }=true:=(pre_splitW hpre).2;obtain⟨d,r,rfl,h1,h2⟩:=hasAllW_cons hsh;obtain rfl:=hasAllW_nil h2;obtain⟨xs,rfl,h3⟩:=hasW_list h1;obtain⟨ns,rfl⟩:=items_int h3;have hlen:ns.length<=n:=by
  unfold OpenLaw.pre at hc;have h4:(WTm.not (.lt (.lit (.int (n:Int))) (.len (.arg 0)))).holds [] { args:=[.list (ns.map .int)] }=true:=by
   have h4:=(holds_andW hc).1;rw[hn] at h4;exact h4
  have h5:=condW_of h4 (w_not (w_lt w_lit (w_len_list (w_arg rfl))));rw[Zab] at h5;refine Nat.le_of_not_lt λq=>?_;have q':(n:Int)<((ns.length:Nat):Int):=by omega
  first
   |(rw[ZaF q'] at h5;exact absurd h5 (by decide))
   |(simp at h5;omega)
 cases hwl with
 |cons w1 w2=>
  cases w2;cases w1 with
  |list ho hall=>exact⟨_,_,ns,rfl,rfl,ho,yO ns _ hall,hlen⟩
theorem O2(l:OpenLaw)(args:List WData):l.row.toRowW.claim.post args (.bool true) args=true:=
 postW_of (r:=l.row.toRowW) (X:=(true==true))
  (show WShape.has [] (.bool true) .bool=true by first|rfl|decide|simp[WShape.has,WShape.arms,WShape.armsAll])
  (show(WTm.eq .res (.lit (.bool true))).value [] { args:=args,res:=some (.bool true),after:=args }=some (.bool (true==true)) from w_eq_bool (w_res rfl) w_lit) rfl
theorem Hv{l:OpenLaw}{n:Nat}{q:Program}{loose:List Str}{XP:(Str->Option Value)->Heap->Prop}{YP:World->Heap->Prop}{d:DefRec}
  (hn:l.most=some n)(hdf:d.params.defaults=[])
  (call:∀ (w:World) (s₀ s₁:Shared) (mg mb:Str->Option Value) (fa:Addr) (o:Obj) (pm cd doc:Value) (a:Addr) (vs:List Value) (ns:List Int),
   Ground q loose [] XP w s₀ mg mb s₁.heap->YP w s₁.heap ->
   s₁.heap.get? fa=some o->o.data=.func (docDef d.name d.params d.body d.scope pm cd doc)->s₁.heap.CodeRec cd d.name->mg d.name=some (.ref fa) ->
   s₁.heap.get? a=some { cls:=.type "list",data:=.seq vs.toArray }->IntsAre vs ns->ns.length<=n->s₁.gens=#[] ->
   codeAny (model l.prog w) callerA (.call (.ref fa) ⟨[.ref a],[]⟩) (λr s'=>r=.ok (.ret (.bool true))/\OldK s₁.heap s'.heap/\s'.os=s₁.os/\AllBare s'.gens) s₁) :
  WalkO q loose XP YP l.row.toRowW d [] (λf vs=>PySem.call f vs):=by
 intro w s₀ s₁ mg mb G Y fa o pm cd doc dV kV ho hd hcd hD hmg hg args vals as hpre hlay hrd hwl hlo;obtain rfl:dV=.none:=Dflts.none hD hdf;obtain rfl:kV=.none:=Dflts.noKw hD;obtain⟨a,vs,ns,rfl,rfl,hobj,hints,hlen⟩:=O1 hn hpre hwl;refine enter_call (codeAny_mono (call w s₀ s₁ mg mb fa o pm cd doc a vs ns G Y ho (fd_plain hd) hcd hmg hobj hints hlen hg) λr s' hq=>?_);obtain⟨rfl,h2,h3,h4⟩:=hq;exact⟨.inl ⟨.bool true,.bool true,[],rfl,λ_=>rfl,.bool true,O2 l _,λ_=>⟨List.Pairwise.nil,λ_ hm=>(nomatch hm)⟩⟩,h2,h3,h4⟩
end Att
namespace L2
open PySem PySem.Spec PyProof.Rows
theorem xG:∀ {vs:List Value}{ns:List Int},IntsAre vs ns->Vals (ns.map V.int) vs
 |_,_,.nil=>.nil
 |_,_,.cons n t h=>.cons ⟨t,rfl⟩ (xG h)
def Only(H:Hp):Prop:=∀ b,H b=none\/∃ o xs,H b=some (.frz o (.lst xs))
theorem QQ{P:Program}{w:World}{K:Frag}{mg mb:Str->Option Value}{CX:CXT}{k:Nat}{fa a:Addr}{fd:FuncData}{x:Str}{sp:Sp}{s₁:Shared}{vs:List Value}{ns:List Int}
  (KX:K.In s₁.heap)(hns:s₁.heap.Ns mainGlobals mg)(hb:s₁.heap.Ns builtinsNs mb)(hbb:∀ x:Str,x≠"__name__"->mb x=bootBuiltins x)(hlim:s₁.heap.NoLimit)(hg:s₁.gens=#[])
  (ha:s₁.heap.get? a=some { cls:=.type "list",data:=.seq vs.toArray })(hi:IntsAre vs ns)(hl:ns.length<=sizeLine)(hr:fu k callerA)
  (F:∀ base:Heap,K.In base->base.Ns mainGlobals mg->sI P w K mg base CX k fa fd [x] sp)(hbind:∀ (s:Shared) (u:Value),BindsTo s fd ⟨[u],[]⟩ [(x,u)])
  (hsp:∀ H:Hp,Only H->SqL K H a (ns.map V.int)->sp [.ref a] H (λv _=>v=.bl true) λ_ _ _=>False)
  (hCX:∀ H e s',CX [] H s₁ (λ_ _ _=>False) e s'->False) :
  codeAny (model P w) callerA (.call (.ref fa) ⟨[.ref a],[]⟩) (λr s'=>r=.ok (.ret (.bool true))/\OldK s₁.heap s'.heap/\s'.os=s₁.os/\AllBare s'.gens) s₁:=by
 have rv:=xG hi;have lenV:=hi.length;have core:∀ H:Hp,Only H->SqL K H a (ns.map V.int)->HOk P w H s₁.heap->(∀ b,H b≠none->b=a)->(H a≠none->K.lookup a=none) ->
   codeAny (model P w) callerA (.call (.ref fa) ⟨[.ref a],[]⟩) (λr s'=>r=.ok (.ret (.bool true))/\OldK s₁.heap s'.heap/\s'.os=s₁.os/\AllBare s'.gens) s₁:=by
  intro H hO hS hok hA hK;have base_of:∀ {b:Addr}{o:Obj},s₁.heap.get? b=some o->H b=none->(Ex s₁.heap H).get? b=some o:=λe n=>Qz e n;have noA:∀ {b:Addr}{o:Obj}{es:Array DictEntry}{ep:Nat},s₁.heap.get? b=some o->o.data=.dict es ep->H b=none:=λ{b o es ep} e d=>by
   cases q:H b with
   |none=>rfl
   |some u=>
    have e':b=a:=hA b (by rw[q];simp)
    subst e';rw[ha] at e;cases e;have d':Data.seq vs.toArray _=Data.dict es ep:=d;cases d'
  have nsK:∀ {b:Addr}{m:Str->Option Value},s₁.heap.Ns b m->(Ex s₁.heap H).Ns b m:=λ{b m} ⟨o,es,ep,e,d,r⟩=>⟨o,es,ep,base_of e (noA e d),d,r⟩;have hKb:K.In (Ex s₁.heap H):=λb o e=>base_of (KX b o e) (by
   cases q:H b with
   |none=>rfl
   |some u=>
    have e':b=a:=hA b (by rw[q];simp)
    subst e';rw[hK (by rw[q];simp)] at e;cases e)
  have hM:Mod K mg (Ex s₁.heap H):=⟨hKb,nsK hns,⟨mb,nsK hb,hbb⟩,let⟨mc,h1,h2⟩:=hlim;⟨mc,nsK h1,h2⟩⟩;have e0:KC P w K mg (Ex s₁.heap H) callerA [] s₁ H:=⟨rfl,hM,λb o e=>Uj e,Nat.le_of_eq (Oq _ _),trivial,λb hb=>absurd (show b∈([]:List Addr) from hb) (by simp),hok,.of_eq hg⟩
  refine codeAny_mono ((F _ hKb (nsK hns)).run callerA [] s₁ H ⟨[.ref a],[]⟩ [.ref a] [.ref a] _ _ hr e0 (hbind s₁ (.ref a)) (.cons rfl .nil) (hsp H hO hS)) λr s' h=>?_;cases r with
  |error e=>exact(hCX H e s' h).elim
  |ok fl=>
   cases fl with
   |next=>exact False.elim h
   |brk=>exact False.elim h
   |cont=>exact False.elim h
   |ret u=>
    obtain⟨v,H',os,bare,un,hok',r',q⟩:=h;have q':v=.bl true:=q;subst q';obtain rfl:u=Value.bool true:=r';refine⟨rfl,OldK.of_keep λb o e=>?_,os,bare⟩;cases q:H b with
    |none=>exact un.keep b o e q (by intro z;exact absurd (show b∈([]:List Addr) from z) (by simp)) (by simp)
    |some u=>
     rcases hO b with z|⟨ob,xs,z⟩
     ·rw[q] at z;cases z
     ·have z2:=un.frzs b ob _ z;obtain⟨e1,_⟩:=hok b _ z;obtain⟨e2,_⟩:=hok' b _ z2;rw[e] at e1;cases e1;exact e2
 cases hk:K.lookup a with
 |some o=>
  have e:=KX a o hk;rw[ha] at e;cases e;refine core (λ_=>none) (λ_=>.inl rfl) (.inr ⟨_,vs.toArray,_,hk,rfl,rfl,rfl,by rw[List.size_toArray,lenV];exact hl,by simpa using rv⟩) (λb u z=>by have z':(none:Option HO)=some u:=z;cases z') (λb z=>absurd rfl z) λz=>absurd rfl z
 |none=>
  refine core (λb=>if b=a then some (.frz { cls:=.type "list",data:=.seq vs.toArray } (.lst (ns.map V.int))) else none) (λb=>?_) (.inl (.inr ⟨{ cls:=.type "list",data:=.seq vs.toArray },Zam rfl⟩)) (λb u z=>?_) (λb z=>?_) λ_=>hk
  ·by_cases hb:b=a
   ·exact .inr ⟨_,_,Zam hb⟩
   ·exact .inl (Zal hb)
  ·by_cases hb:b=a
   ·have z':=(Zam hb).symm.trans z;cases z';subst hb;exact⟨ha,by rw[Zab];exact hl,vs,_,rv,ha⟩
   ·have z':=(Zal hb).symm.trans z;cases z'
  ·by_cases hb:b=a
   ·exact hb
   ·exact absurd (Zal hb) z
theorem Ux{l:PySem.W.OpenLaw}{n k:Nat}{q:Program}{loose:List Str}{XP:(Str->Option Value)->Heap->Prop}{YP:World->Heap->Prop}{d:DefRec}{K:Params->Frag}{CX:World->CXT}{sp:World->Sp}{x:Str}
  (hn:l.most=some n)(hn2:n<=sizeLine)(hdf:d.params.defaults=[])(hr:fu k callerA)
  (hY:∀ (w:World) (h:Heap),YP w h->(K w.params).In h)
  (F:∀ (w:World) (mg:Str->Option Value) (fa:Addr) (h:Heap),(K w.params).In h->h.Ns mainGlobals mg->mg d.name=some (.ref fa) ->
   ∃ fd:FuncData,(∀ (s:Shared) (u:Value),BindsTo s fd ⟨[u],[]⟩ [(x,u)]) /\
    ∀ base:Heap,(K w.params).In base->base.Ns mainGlobals mg->sI l.prog w (K w.params) mg base (CX w) k fa fd [x] (sp w))
  (hsp:∀ (w:World) (H:Hp) (a:Addr) (ns:List Int),ns.length<=n->Only H->SqL (K w.params) H a (ns.map V.int)->sp w [.ref a] H (λv _=>v=.bl true) λ_ _ _=>False)
  (hCX:∀ (w:World) (H:Hp) (s:Shared) (e:Value) (s':Shared),CX w [] H s (λ_ _ _=>False) e s'->False) :
  PySem.W.WalkO q loose XP YP l.row.toRowW d [] (λf vs=>PySem.call f vs):=by
 refine Att.Hv hn hdf λw s₀ s₁ mg mb fa o pm cd doc a vs ns G Y ho hd hcd hmg hobj hints hlen hg=>?_;have KX:=hY w _ Y;obtain⟨fd,hb,hF⟩:=F w mg fa _ KX G.T.g hmg;exact QQ KX G.T.g G.T.b G.T.builtins G.T.nolimit hg hobj hints (ZaI hlen hn2) hr hF hb (λH hO hS=>hsp w H a ns hlen hO hS) λH e s'=>hCX w H s₁ e s'
def bB(s:Stmt):Arguments:=match s with
 |.FunctionDef _ a _ _ _ _ _ _ _ _=>a
 |_=>{ posonlyargs:=[],args:=[],vararg:=none,kwonlyargs:=[],kw_defaults:=[],kwarg:=none,defaults:=[] }
def bw(s:Stmt):List Stmt:=match s with
 |.FunctionDef _ _ b _ _ _ _ _ _ _=>b
 |_=>[]
def aG(s:Stmt):Scope:=match s with
 |.FunctionDef _ _ _ _ _ _ sc _ _ _=>sc
 |_=>{ kind:=.function,names:=[],isGenerator:=false,isCoroutine:=false }
noncomputable abbrev CX0:CXT:=λ_ _ _ _ _ _=>False
noncomputable abbrev E0:XK:=λ_ _ _=>False
theorem YL{X:Cx}:KD CX0 X E0:=λ_ _ _ _ _ _ _ h=>h.elim
structure Fun(K:Frag)(x qual:Str)(st:Stmt)(f:Addr)(fd:FuncData):Prop where
 ex:∃ (oc:Value) (od:Option Addr) (kV doc pm:Value) (an:Option Addr) (cdv ct:Value) (osl:Array (Option Value)),
  fd=fnOf x qual (bB st) (bw st) (aG st) .none kV doc pm an cdv ct/\K.lookup f=some ⟨oc,od,.func fd,osl⟩/\codeIn K cdv qual=true
 kp:keepIn K (.ref f)=true
section
variable{P:Program}{w:World}{K:Frag}{mg:Str->Option Value}{base:Heap}
theorem Fun.ok{x qual:Str}{st:Stmt}{f:Addr}{fd:FuncData}{N ps:List Str}{k:Nat}{sp:Sp}(F:Fun K x qual st f fd)(S:bu N ps (aG st))(len:∀ vs H Q E,sp vs H Q E->vs.length=ps.length)
  (hbody:∀ (cdv:Value) (A:Around) (outer:List Env) (s:Shared) (H:Hp) (vs:List V) (Q:VK) (E:XK),fu k (A.deeper (envOfC qual (aG st) s.heap.objs.size f cdv))->sp vs H Q E ->
   ∃ t,PSs (KH CX0 P w K mg base N qual (aG st) f cdv A outer s H E).nox (bw st) t/\t { nx:=λ_ H'=>Q .non H',rt:=Q } (start N vs) H):sI P w K mg base CX0 (k+1) f fd ps sp:=by
 obtain⟨oc,od,kV,doc,pm,an,cdv,ct,osl,rfl,lk,hcd⟩:=F.ex;refine YC lk hcd S len λA outer s H vs Q E hr hsp=>?_;obtain⟨t,h,q⟩:=hbody cdv A outer s H vs Q E hr hsp;exact⟨t,h.nox,q⟩
theorem Fun.binds{x qual:Str}{st:Stmt}{f:Addr}{fd:FuncData}{ps:List Str}(F:Fun K x qual st f fd)
  (h:∀ (kV doc pm:Value) (an:Option Addr) (cdv ct:Value) (us:List Value),us.length=ps.length->bindArgs (fnOf x qual (bB st) (bw st) (aG st) .none kV doc pm an cdv ct) ⟨us,[]⟩=pure (ps.zip us)):Binds K fd ps []:=by
 obtain⟨oc,od,kV,doc,pm,an,cdv,ct,osl,rfl,lk,hcd⟩:=F.ex;exact .all (h kV doc pm an cdv ct)
theorem bW{x qual:Str}{st:Stmt}{f:Addr}{oc:Value}{od an:Option Addr}{osl:Array (Option Value)}{kV doc pm cdv ct:Value}(l:K.lookup f=some ⟨oc,od,.func (fnOf x qual (bB st) (bw st) (aG st) .none kV doc pm an cdv ct),osl⟩)
  (c:codeIn K cdv qual=true)(k:keepIn K (.ref f)=true):Fun K x qual st f (fnOf x qual (bB st) (bw st) (aG st) .none kV doc pm an cdv ct):=⟨⟨oc,od,kV,doc,pm,an,cdv,ct,osl,rfl,l,c⟩,k⟩
end
theorem jD{A:Around}{k:Nat}(hr:fu k A):A.units+1<cLine:=Zbn (Nat.add_le_add_left (by decide:1<=64) _) hr.units
theorem bY{n:Nat}(h:n<=1000):n<sizeLine:=Zbn h (by decide)
section
variable{X:Cx}
theorem pv(i:Nat){x:Str}{pos:Pos}(hN:X.N[i]?=some x:=by rfl)(hv:Vis X.env.scope x:=by first|exact Or.inl rfl|exact Or.inr (Or.inl rfl)|exact Or.inr (Or.inr rfl))(hd:(x==("__debug__":Str))=false:=by decide)
  (hcd:(x==("__classdict__":Str))=false:=by decide):PE X (.Name x pos) (lJ i):=Km hN hv hd hcd
end
theorem xH{c A B:Prop}[Decidable c](h1:c->A)(h2:¬c->B):if c then A else B:=by
 by_cases h:c
 ·rw[Zam h];exact h1 h
 ·rw[Zal h];exact h2 h
def aU(H H':Hp):Prop:=∀ b o,H b=some o->H' b=some o
theorem aU.refl(H:Hp):aU H H:=λ_ _ h=>h
theorem aU.trans{H H1 H2:Hp}(a:aU H H1)(b:aU H1 H2):aU H H2:=λc o h=>b c o (a c o h)
theorem aU.free{H H':Hp}(e:aU H H'){l:Addr}(h:H' l=Option.none):H l=Option.none:=by
 cases q:H l with
 |none=>rfl
 |some o=>
  rw[e l o q] at h;cases h
theorem aU.seq{K:Frag}{H H':Hp}{a:Addr}{xs:List V}(e:aU H H')(h:SqL K H a xs):SqL K H' a xs:=by
 rcases h with(h|⟨o,h⟩)|h
 ·exact .inl (.inl (e _ _ h))
 ·exact .inl (.inr ⟨o,e _ _ h⟩)
 ·exact .inr h
end L2
set_option maxHeartbeats 4000000
namespace Mth
def sub(l m:List Bool):Bool:=(List.range l.length).all λi=>!l.getD i false||m.getD i false
theorem Uy(n p:Nat):(n/2^p) &&& 1=(n.testBit p).toNat:=by
 have h:=Nat.testBit_eq_decide_div_mod_eq (x:=n) (i:=p);rw[Nat.and_one_is_mod,h];by_cases e:n/2^p%2=1
 ·simp[e]
 ·have:n/2^p%2=0:=by omega
  simp[this]
def pl(W:Nat)(c:Int×Int):Nat:=c.2.toNat*W+c.1.toNat
def cellOf(W:Nat)(i:Nat):Int×Int:=(((i%W:Nat):Int),((i/W:Nat):Int))
structure InR(W H:Nat)(c:Int×Int):Prop where
 c0:0<=c.1
 c1:c.1<W
 r0:0<=c.2
 r1:c.2<H
theorem rC(W i:Nat):pl W (cellOf W i)=i:=by
 unfold pl cellOf;simp only[ZaD];exact Nat.div_add_mod' i W
theorem xJ{W H:Nat}{i:Nat}(h:i<W*H):InR W H (cellOf W i):=by
 have hW:0<W:=by
  rcases Nat.eq_zero_or_pos W with e|e
  ·subst e;simp at h
  ·exact e
 refine⟨Za1 _,?_,Za1 _,?_⟩
 ·exact Int.ofNat_lt.mpr (Nat.mod_lt _ hW)
 ·exact Int.ofNat_lt.mpr (Nat.div_lt_of_lt_mul h)
theorem Dr{W H:Nat}{c:Int×Int}(h:InR W H c):cellOf W (pl W c)=c:=by
 obtain⟨c0,c1,r0,r1⟩:=h;obtain⟨x,y⟩:=c;simp only at c0 c1 r0 r1;obtain⟨a,rfl⟩:=ZaX c0;obtain⟨b,rfl⟩:=ZaX r0;have hW:0<W:=by omega
 have ha:a<W:=by omega
 unfold cellOf pl;simp only[ZaD];rw[Nat.mul_comm b W,Nat.mul_add_mod,Nat.mod_eq_of_lt ha,Nat.mul_add_div hW,Nat.div_eq_of_lt ha,Nat.add_zero]
theorem Mx{W H:Nat}{c:Int×Int}(h:InR W H c):pl W c<W*H:=by
 obtain⟨c0,c1,r0,r1⟩:=h;unfold pl;have h1:c.1.toNat<W:=by omega
 have h2:c.2.toNat+1<=H:=by omega
 have h3:(c.2.toNat+1)*W<=H*W:=Nat.mul_le_mul_right W h2;rw[Nat.add_mul,Nat.one_mul] at h3;rw[Nat.mul_comm W H];omega
def xK(W:Nat)(ps:List (Int×Int)):Nat:=ps.foldl (λn c=>n ||| 2^pl W c) 0
theorem Hw(W:Nat):∀ (ps:List (Int×Int)) (n i:Nat),(ps.foldl (λn c=>n ||| 2^pl W c) n).testBit i=(n.testBit i||decide (∃ c∈ps,pl W c=i))
 |[],n,i=>by simp
 |c::ps,n,i=>by
  rw[Zc2,Hw W ps,Nat.testBit_or,Nat.testBit_two_pow,Bool.or_assoc];congr 1
  rw[Zco];simp
theorem My(W:Nat)(ps:List (Int×Int))(i:Nat):(xK W ps).testBit i=decide (∃ c∈ps,pl W c=i):=by
 unfold xK;rw[Hw];simp
theorem O3(W:Nat)(ps:List (Int×Int))(c:Int×Int):xK W (ps++[c])=xK W ps ||| 2^pl W c:=by
 unfold xK;rw[List.foldl_append];rfl
def bits(W k:Nat)(ps:List (Int×Int)):List Bool:=(List.range k).map λi=>decide (cellOf W i∈ps)
def pick(W k:Nat)(q:Nat->Bool):List (Int×Int):=((List.range k).filter q).map (cellOf W)
theorem nY(W k:Nat)(q:Nat->Bool):(pick W k q).length<=k:=by
 unfold pick;rw[Zab];exact ZaI (ZaO _ _) (by simp)
end Mth
namespace L2
open PySem PySem.Spec PyProof.Rows
theorem ug{env:Env}:∀ (names:List (Str×NameKind)) (cs:List (Str×Addr)),(∀ x∈names,x.2=.free->∃ c,env.cells.lookup x.1=some c) ->
  (∀ x c,cs.lookup x=some c->env.cells.lookup x=some c) ->
  ∃ cl,(forIn names cs λx s=>if(x.snd==NameKind.free)=true then do let d <-cellOf env x.fst;pure (ForInStep.yield ((x.fst,d)::s)) else pure (ForInStep.yield s):Sem _)=pure cl /\
   (∀ x c,cl.lookup x=some c->env.cells.lookup x=some c)/\(∀ x c,cs.lookup x=some c->cl.lookup x=some c)/\∀ x,(x,NameKind.free)∈names->∃ c,cl.lookup x=some c
 |[],cs,_,h2=>⟨cs,rfl,h2,λ_ _ e=>e,λ_ h=>nomatch h⟩
 |(n,k)::r,cs,h1,h2=>by
  rw[List.forIn_cons];by_cases hk:k=.free
  ·subst hk;obtain⟨c,hc⟩:=h1 (n,.free) Zax rfl;have ec:cellOf env n=pure c:=by unfold cellOf;simp only[hc]
   obtain⟨cl,e,p1,p2,p3⟩:=ug r ((n,c)::cs) (λx hx=>h1 x (Zat _ hx)) (λx d e=>by
    rw[Zci] at e;by_cases hx:x=n
    ·subst hx;simp at e;subst e;exact hc
    ·have hb:(x==n)=false:=beq_eq_false_iff_ne.mpr hx;rw[hb] at e;exact h2 x d e)
   refine⟨cl,?_,p1,λx d e'=>?_,λx hx=>?_⟩
   ·simp only[beq_self_eq_true,ZbA,ec];exact e
   ·by_cases hx:x=n
    ·subst hx;have:=h2 _ _ e';rw[hc] at this;cases this;exact p2 x c (by simp)
    ·have hb:(x==n)=false:=beq_eq_false_iff_ne.mpr hx;exact p2 x d (by rw[Zci,hb];exact e')
   ·rcases ZaC.mp hx with e|hx
    ·cases e;exact⟨c,p2 n c (by simp)⟩
    ·exact p3 x hx
  ·obtain⟨cl,e,p1,p2,p3⟩:=ug r cs (λx hx=>h1 x (Zat _ hx)) h2;have hb:(k==NameKind.free)=false:=by simpa using hk
   refine⟨cl,?_,p1,p2,λx hx=>?_⟩
   ·simp only[hb,ZbB,Zbb];exact e
   ·rcases ZaC.mp hx with e|hx
    ·cases e;exact absurd rfl hk
    ·exact p3 x hx
theorem KQ{scope:Scope}{env:Env}(h:∀ x∈scope.names,x.2=.free->∃ c,env.cells.lookup x.1=some c):∃ cl,closureFor scope env=pure cl /\
  (∀ x c,cl.lookup x=some c->env.cells.lookup x=some c)/\∀ x,(x,NameKind.free)∈scope.names->∃ c,cl.lookup x=some c:=by
 obtain⟨cl,e,p1,_,p3⟩:=ug scope.names [] h (λ_ _ e=>nomatch e);refine⟨cl,?_,p1,p3⟩;simp only[closureFor];rw[e];rfl
noncomputable abbrev pU(env:Env)(x:Str×NameKind):Str×NameKind:=if(x.2==NameKind.free&&env.scope.kind==.function&&env.kindOf x.1==some .cell)=true then(x.1,NameKind.cell) else x
theorem O4(env:Env)(x:Str×NameKind):(pU env x).1=x.1:=by unfold pU;split<;>rfl
theorem u6{env:Env}:∀ (names:List (Str×NameKind)) (x:Str),(names.map (pU env)).lookup x=(names.lookup x).map λk=>(pU env (x,k)).2
 |[],x=>rfl
 |(n,k)::r,x=>by
  rw[Zaq];have e1:pU env (n,k)=(n,(pU env (n,k)).2):=by
   have:=O4 env (n,k);cases h:pU env (n,k) with
   |mk a b=>rw[h] at this;cases this;rfl
  rw[e1,Zci,Zci,u6 r x];by_cases hx:x=n
  ·subst hx;simp
  ·have hb:(x==n)=false:=beq_eq_false_iff_ne.mpr hx;rw[hb]
theorem Cy(scope:Scope)(env:Env):(relabel scope env).names=scope.names.map (pU env):=by
 unfold relabel;show List.map _ _=_
 refine Za3 λx _=>?_;obtain⟨n,k⟩:=x;rfl
theorem lV(scope:Scope)(env:Env)(x:Str):(relabel scope env).names.lookup x=(scope.names.lookup x).map λk=>(pU env (x,k)).2:=by
 rw[Cy,u6]
theorem lK{scope:Scope}{env:Env}{x:Str}{k:NameKind}(hk:k≠.free)(h:scope.names.lookup x=some k):(relabel scope env).names.lookup x=some k:=by
 rw[lV,h];simp[pU,hk]
theorem u9{scope:Scope}{env:Env}{x:Str}(h:scope.names.lookup x=some .free):(relabel scope env).names.lookup x=some .cell\/(relabel scope env).names.lookup x=some .free:=by
 rw[lV,h];simp only[Zbu,pU];split
 ·exact .inl rfl
 ·exact .inr rfl
theorem KR{scope:Scope}{env:Env}{x:Str}(h0:scope.names.lookup x≠some .cell)(h:(relabel scope env).names.lookup x=some .cell\/(relabel scope env).names.lookup x=some .free):scope.names.lookup x=some .free:=by
 rw[lV] at h;cases e:scope.names.lookup x with
 |none=>rw[e] at h;simp at h
 |some k=>
  by_cases hk:k=.free
  ·rw[hk]
  ·rw[e] at h;simp[pU,hk] at h;subst h;exact absurd e h0
theorem lookup_mem{β:Type}:∀ {l:List (Str×β)}{x:Str}{v:β},l.lookup x=some v->(x,v)∈l
 |[],_,_,h=>nomatch h
 |(n,k)::r,x,v,h=>by
  rw[Zci] at h;by_cases hx:x=n
  ·subst hx;simp at h;subst h;exact Zax
  ·have hb:(x==n)=false:=beq_eq_false_iff_ne.mpr hx;rw[hb] at h;exact Zat _ (lookup_mem h)
noncomputable abbrev Cx.comp(X:Cx)(N:List Str)(scope:Scope)(cl:List (Str×Addr))(C:Addr)(s2:Shared)(H2:Hp)(fp:List Addr):Cx where
 prog:=X.prog
 w:=X.w
 K:=X.K
 mg:=X.mg
 base:=X.base
 A:=X.A
 N:=N
 s₀:=s2
 H₀:=H2
 env:=compEnvC scope cl C X.env
 outer:=X.stack
 stack:=X.stack
 ex:=fp
 fn:=λ_=>false
 calm:=X.calm
 pn:=[]
 xe:=λ_ _=>False
def zL(XN N:List Str)(xs scope:Scope)(fr:List (Option Nat)):Bool:=
 decide (fr.length=N.length)&&(scope.kind==.function)&&(scope.names.all λx=>!(x.2==.cell))&&(scope.names.all λx=>!(x.2==.local)||scope.names.lookup x.1==some .local) &&
 (scope.names.all λx=>!(x.2==.free)||(xs.names.lookup x.1==some .cell||xs.names.lookup x.1==some .free)) &&
 (List.range N.length).all λj=>match fr[j]?,N[j]? with
  |some (some i),some x=>decide (XN[i]?=some x)&&(scope.names.lookup x==some .free)
  |_,_=>true
theorem Hy{XN N:List Str}{xs scope:Scope}{fr:List (Option Nat)}(h:zL XN N xs scope fr=true) :
  fr.length=N.length/\scope.kind=.function/\(∀ x∈scope.names,x.2≠.cell)/\(∀ x∈scope.names,x.2=.local->scope.names.lookup x.1=some .local) /\
  (∀ x∈scope.names,x.2=.free->xs.names.lookup x.1=some .cell\/xs.names.lookup x.1=some .free) /\
  ∀ (j i:Nat) (x:Str),fr[j]?=some (some i)->N[j]?=some x->XN[i]?=some x/\scope.names.lookup x=some .free:=by
 unfold zL at h;simp only[Zcy,decide_eq_true_eq,ZaT] at h;obtain⟨⟨⟨⟨⟨h1,h2⟩,h3⟩,h4⟩,h5⟩,h6⟩:=h;refine⟨h1,by simpa using h2,λx hx=>by simpa using h3 x hx,λx hx e=>?_,λx hx e=>?_,λj i x e1 e2=>?_⟩
 ·have:=h4 x hx;simp[e] at this;exact this
 ·have:=h5 x hx;simp[e] at this;exact this
 ·have hj:j<N.length:=(Zad.mp e2).1;have:=h6 j (Zay.mpr hj);rw[e1,e2] at this;simpa using this
def frσ(fr:List (Option Nat))(O:St):St:=fr.map λo=>match o with
 |some i=>match O[i]? with
  |some v=>v
  |none=>none
 |none=>none
theorem Uz{fr:List (Option Nat)}{O:St}{j:Nat}{v:V}(h:(frσ fr O)[j]?=some (some v)):∃ i,fr[j]?=some (some i)/\O[i]?=some (some v):=by
 unfold frσ at h;rw[Zac] at h;cases e:fr[j]? with
 |none=>rw[e] at h;cases h
 |some o=>
  rw[e] at h;cases o with
  |none=>cases h
  |some i=>
   simp only[Zbu] at h;cases e2:O[i]? with
   |none=>rw[e2] at h;cases h
   |some w=>rw[e2] at h;exact⟨i,rfl,by simpa[e2] using h⟩
def QR(X:Cx)(ifs:List Expr)(t:TT):Prop:=
 ∀ (pins:List (Addr×Obj)) (s:Shared) (O:St) (H:Hp) (Q:Bool->Hp->Prop),Inv X pins O H s->t O H Q ->
  wpAny (model X.prog X.w) X.A (forIn ifs true λc r=>if r=true then do let ok <-isTrue c X.env (eval c X.env);pure (ForInStep.yield ok) else pure (ForInStep.yield r)) (TP X pins O Q) X.xe s
def YM:TT:=λ_ H Q=>Q true H
theorem o7{X:Cx}:QR X [] YM:=λ_ _ _ H _ I h=>wpAny_tests_nil ⟨H,I,h⟩
theorem ql{X:Cx}{c:Expr}{t:TT}(h:PT X c t):QR X [c] t:=λpins s O H Q I hw=>wpAny_tests_one (h pins s O H Q I hw)
def YQ(D:Addr)(tc:TT)(te:TE):TS:=λE O H=>tc O H λb H1=>if b=true then te O H1 λv H2=>∃ ys,H2 D=some (.lst ys)/\ys.length<sizeLine/\E.nx O (upd H2 D (.lst (ys++[v]))) else E.nx O H1
def endC(Q:VK)(D:Addr):Ends:={ nx:=λ_ H=>Q (.ref D) H,rt:=λ_ _=>False }
def Ds(wi:TI)(fr:List (Option Nat))(g:TG)(tc:TT)(te:TE):TE:=λO H Q=>wi O H λJ H1=>∀ D,H1 D=none->∃ W:Nat->Nat->St->Hp->Prop,(∃ m,W 0 m (frσ fr O) (upd H1 D (.lst [])))/\∀ i m O H,W i m O H ->
 (J.stop i H/\(endC Q D).nx O H)\/(J.go i H/\∃ N:St->Hp->Prop,(∀ O' H',N O' H'->∃ m',m'<m/\W (i+1) m' O' H')/\∀ x H',J.yld i H x H'->g x O H' λσ2 H2=>YQ D tc te { endC Q D with nx:=N,ct:=N,bk:=(endC Q D).nx } σ2 H2)
section
variable{prog:Program}{w:World}{A:Around}{R:Result->Shared->Prop}{s:Shared}
theorem O5{elt target iter:Expr}{ifs:List Expr}{scope:Scope}{pos:Pos}{it acc:Value}{env:Env}(I:Nat->Shared->Prop)
  (turn:∀ n s,I n s->wpAny (model prog w) A (pyNext it) (λr s₁=>match r with
   |none=>R (.ok .next) s₁
   |some v=>wpAny (model prog w) A (letOwnedTupleGo target it v) (λ_ s₁=>wpAny (model prog w) A (assign target env v) (λ_ s₂=>
     wpAny (model prog w) A (forIn ifs true λc r=>if r=true then do let ok <-isTrue c env (eval c env);pure (ForInStep.yield ok) else pure (ForInStep.yield r)) (λok s₃=>
      if ok=true then wpAny (model prog w) A (eval elt env) (λx s₄=>
       wpAny (model prog w) A (call (.builtin "list.append") [acc,x]) (λ_ s₅=>∃ m,m<n/\I m s₅) (notedBy (model prog w) A env λe s'=>R (.error e) s') s₄) (notedBy (model prog w) A env λe s'=>R (.error e) s') s₃
      else ∃ m,m<n/\I m s₃) (notedBy (model prog w) A env λe s'=>R (.error e) s') s₂) (notedBy (model prog w) A env λe s'=>R (.error e) s') s₁) (notedBy (model prog w) A env λe s'=>R (.error e) s') s₁) (notedBy (model prog w) A env λe s'=>R (.error e) s') s)
  (n:Nat)(h:I n s) :
  codeAny (model prog w) A (.compLoop (.ListComp elt [⟨target,iter,ifs,0⟩] scope pos) 0 it acc env) R s:=by
 refine codeAny_loop rfl I (λn s hI=>?_) n h;show wpAny _ A ((compTurn (.ListComp elt [⟨target,iter,ifs,0⟩] scope pos) 0 it acc env).onRaise (λx=>do noteFrame x env;theTreesLotGoes x)) _ _ s
 refine wpAny_noted ?_;rw[compTurn_list];refine Zaa (wpAny_standAt (Zaa (Zbk (turn n s hI) (λr s₁ h₁=>?_) λ_ _ h'=>h')));cases r with
 |none=>exact Zah h₁
 |some v=>
  refine Zaa (Zbk h₁ (λ_ s₁' h₁'=>?_) λ_ _ h'=>h');refine Zaa (Zbk h₁' (λ_ s₂ h₂=>Zaa (Zbk h₂ (λok s₃ h₃=>?_) λ_ _ h'=>h')) λ_ _ h'=>h');cases ok with
  |false=>exact Zah ⟨rfl,h₃⟩
  |true=>
   exact Zaa (Zaa (Zbk h₃ (λx s₄ h₄=>Zaa (Zbk h₄ (λ_ s₅ h₅=>Zah (Zah ⟨rfl,h₅⟩)) λ_ _ h'=>h')) λ_ _ h'=>h'))
end
structure Apart(X:Cx)(pins:List (Addr×Obj))(C:Addr):Prop where
 ne:C≠X.env.locals
 ab:X.s₀.heap.objs.size<=C
 cells:∀ x c,X.env.cells.lookup x=some c->c≠C
 pins:∀ p∈X.pn++pins,p.1≠C
section
variable{X:Cx}{elt tg iter:Expr}{ifs:List Expr}{scope:Scope}{pos pos':Pos}{wi:TI}{g:TG}{tc:TT}{te:TE}{pins:List (Addr×Obj)}{O:St}{H:Hp}{s:Shared}
theorem Hz(N:List Str)(fr:List (Option Nat))(hc:X.calm=true)(hi:PI X tg iter wi)(hg:∀ cl C s2 H2 fp,PG (X.comp N scope cl C s2 H2 fp) tg g)
  (ht:∀ cl C s2 H2 fp,QR (X.comp N scope cl C s2 H2 fp) ifs tc)(he:∀ cl C s2 H2 fp,PE (X.comp N scope cl C s2 H2 fp) elt te)
  (ok:zL X.N N X.env.scope scope fr=true)(hs:∀ x,foldedSetIterable iter X.env x=pure x){Q:VK}{Q':Value->Shared->Prop}{use:Option (Value->Sem Unit)}
  (I:Inv X pins O H s)(h:Ds wi fr g tc te O H Q)
  (fin:∀ D C s' H',Inv X pins O H' s'->H' C=none->Apart X pins C->(∃ m,s'.heap.Ns C m)->Q (.ref D) H'->compPost (model X.prog X.w) X.A X.xe use Q' (.ref D) C (.ok .next) s') :
  wpAny (model X.prog X.w) X.A (comprehension (.ListComp elt [⟨tg,iter,ifs,0⟩] scope pos) scope X.env pos' (newList []) false (eval iter X.env) use) Q' X.xe s:=by
 obtain⟨o1,o2,o3,o4,o5,o6⟩:=Hy ok;obtain⟨cl,hclos,c1,c2⟩:=KQ (scope:=scope) (env:=X.env) (λx hx hf=>I.ok.has x.1 (o5 x hx hf));refine wpAny_comprehension_free (use:=use) rfl hs hclos o2 o4 (thn (hi pins s O H _ I h) λxv s1 h1=>thn h1 λitv s2 h2=>?_);obtain⟨it,fp,tn,J,H2,rfl,I2,T,st2,f2,hW⟩:=h2;refine Za0 (wpAny_newFunctionEnv o3 (by intro y hy;simp at hy) (λh₁ hns₁ hsb₁=>?_) o2)
 dsimp only at hns₁ hsb₁ ⊢;generalize hHH:s2.heap.push { cls:=.type "list",dict:=none,data:=.seq ([]:List Value).toArray }=HH at hns₁ hsb₁ ⊢
 have hC:HH.objs.size=s2.heap.objs.size+1:=by rw[<-hHH,Heap.size_push]
 have hDC:s2.heap.objs.size≠HH.objs.size:=by rw[hC];exact ZaE (Zcz _)
 have hCle:s2.heap.objs.size<=HH.objs.size:=by rw[hC];exact ZbQ _
 have neC:∀ b,b<s2.heap.objs.size->b≠HH.objs.size:=λb hb=>by rw[hC];exact ZaE (ZcS hb)
 have old:∀ b o,s2.heap.get? b=some o->h₁.get? b=some o:=λb o e=>hsb₁.extBut b o (neC b (Zau e)) (Zaj _ (hHH▸Zaj _ e));have atD:h₁.get? s2.heap.objs.size=some { cls:=.type "list",data:=.seq ([]:List Value).toArray }:=hsb₁.extBut _ _ hDC (Zaj _ (hHH▸Zar _ rfl));have ltf:∀ b∈fp,b<s2.heap.objs.size:=λb hb=>let⟨o,e,_⟩:=T.obj _ _ st2 b hb;Zau e;have ltc:∀ x c,X.env.cells.lookup x=some c->c<s2.heap.objs.size:=λx c e=>let⟨v,q⟩:=I2.cell x c e;q.lt;have ltp:∀ p∈X.pn++pins,p.1<s2.heap.objs.size:=λp hp=>Zau (I2.pin p hp).1;have fresh:H2 s2.heap.objs.size=none:=I2.hok.fresh (Zan _);have freshC:H2 HH.objs.size=none:=I2.hok.fresh hCle;have ap:Apart X pins HH.objs.size:=⟨Zb4 (ZaG I2.lt hCle),ZaI I2.sz hCle,λx c e=>neC c (ltc x c e),λp hp=>neC _ (ltp p hp)⟩;have okY:(X.comp N scope cl HH.objs.size s2 H2 fp).Ok:={
  mod:=I2.ok.mod
  kind:=o2
  glob:=I2.ok.glob
  blt:=I2.ok.blt
  above:=hCle
  inj:=λx y c a b=>I2.ok.inj x y c (c1 _ _ a) (c1 _ _ b)
  has:=λx hx=>c2 x (lookup_mem (KR (λz=>o3 _ (lookup_mem z) rfl) hx))
  cab:=λx c hx _=>by cases hx
  hd:=I2.ok.hd
  frames:=I2.ok.frames
  stk:=.inl rfl
  exf:=λb hb=>⟨neC b (ltf b hb),λx c e=>(f2 b hb).2.2.2.2.1 x c (c1 x c e)⟩
  bs:=I2.bs
  bsz:=ZaI I2.ok.bsz I2.sz
  noex:=λb o e hb=>by
   rcases(f2 b hb).2.2.2.1 with z|z
   ·exact I2.ok.noex b o e z
   ·exact absurd (ZaG (Zau e) (ZaI I2.ok.bsz z)) (ZbU _)
  exfs:=λb hb hf=>by
   rcases ZaC.mp (I2.Kl b hf) with z|z
   ·exact(f2 b hb).2.1 z
   ·exact(f2 b hb).2.2.1 z
  xu:=I2.stack
  frf:=I2.Mj }
 have IY:Inv (X.comp N scope cl HH.objs.size s2 H2 fp) [] (frσ fr O) (upd H2 s2.heap.objs.size (.lst [])) { s2 with heap:=h₁,toks:=s2.toks+([]:List (Str×Value)).length }:={
  ok:=okY
  os:=rfl
  bare:=I2.bare
  base:=Un.laid old (Zan _) fresh
  loc:=by
   refine⟨_,hns₁,λj x v e1 e2 e3=>?_⟩;obtain⟨i,f1,f2'⟩:=Uz e2;obtain⟨g1,g2⟩:=o6 j i x f1 e1;have k2:=o5 _ (lookup_mem g2) rfl;obtain⟨m2,hm2,l2⟩:=I2.loc;obtain⟨u,ru,lk⟩:=l2 i x v g1 f2' (.inr k2);refine⟨u,ru,.inr ⟨u9 g2,?_⟩⟩;obtain⟨c,hcl⟩:=c2 x (lookup_mem g2);refine⟨c,hcl,?_⟩;rcases lk with⟨k,_⟩|⟨_,c',e',z⟩
   ·rcases k2 with k2|k2
    ·rw[show X.env.kindOf x=X.env.scope.names.lookup x from rfl,k2] at k;cases k
    ·rw[show X.env.kindOf x=X.env.scope.names.lookup x from rfl,k2] at k;cases k
   ·rw[c1 x c hcl] at e';cases e';obtain⟨oc,hoc,hd⟩:=z;exact⟨oc,old c oc hoc,hd⟩
  cell:=λx c e=>by
   obtain⟨v,oc,hoc,hd⟩:=I2.cell x c (c1 x c e);exact⟨v,oc,old c oc hoc,hd⟩
  free:=(aJ (Zbl hDC)).trans freshC
  freeC:=λx c e=>by
   rw[aJ (ZaE (ltc x c (c1 x c e)))];exact I2.freeC x c (c1 x c e)
  pin:=λp hp=>by cases hp
  hok:=I2.hok.laid old (Zan _) ⟨Za4 _,[],0,.nil,atD⟩
  len:=by unfold frσ;rw[Zab];exact o1 }
 have stat:∀ {H':Hp}{pp:List (Addr×Obj)},pp=[]->(∀ b∈fp,H' b=none)->∀ b∈fp,zE (X.comp N scope cl HH.objs.size s2 H2 fp) pp H' b:=λ{H' pp} hp hn b hb=>by
  subst hp;exact⟨hn b hb,neC b (ltf b hb),λz=>okY.exfs b hb z,.inl hb,λx c e=>(f2 b hb).2.2.2.2.1 x c (c1 x c e),λp hp=>by cases hp⟩
 have back:∀ {O':St}{H':Hp}{s':Shared},Inv (X.comp N scope cl HH.objs.size s2 H2 fp) [] O' H' s'->Inv X pins O H' s':=λ{O' H' s'} I'=>
  I2.call' (ch:=fp) I'.os I'.base I'.hok I'.bare λb hb=>⟨(f2 b hb).2.2.2.1,(f2 b hb).2.1,(f2 b hb).2.2.2.2.1,(f2 b hb).2.2.2.2.2⟩
 have loop:∀ s₃:Shared,s₃={ s2 with heap:=h₁,toks:=s2.toks+([]:List (Str×Value)).length } ->
   codeAny (model X.prog X.w) X.A (.compLoop (.ListComp elt [⟨tg,iter,ifs,0⟩] scope pos) 0 (.ref it) (.ref s2.heap.objs.size) (compEnvC scope cl HH.objs.size X.env))
    (compPost (model X.prog X.w) X.A X.xe use Q' (.ref s2.heap.objs.size) HH.objs.size) s₃:=by
  rintro s₃ rfl;obtain⟨W,⟨m0,w0⟩,turn⟩:=hW s2.heap.objs.size fresh;refine O5 (λn s'=>∃ i O' H',Inv (X.comp N scope cl HH.objs.size s2 H2 fp) [] O' H' s'/\tn i s'.heap/\(∀ b∈fp,H' b=none)/\W i n O' H') ?_ m0
   ⟨0,_,_,IY,T.keep _ _ _ st2 λb _ o e=>old b o e,λb hb=>by rw[aJ (ZaE (ltf b hb))];exact(f2 b hb).1,w0⟩
  rintro n s3 ⟨i,σ3,H3,I3,st3,fr3,w3⟩;rcases turn i n σ3 H3 w3 with⟨stop,q⟩|⟨go,Nx,hN,step⟩
  ·refine thn (T.done (X.comp N scope cl HH.objs.size s2 H2 fp) rfl rfl rfl hc i [] s3 σ3 H3 _ I3 (stat rfl fr3) st3 stop) ?_;rintro r s4 ⟨hr,I4⟩;subst hr;obtain⟨m4,hm4,_⟩:=I4.loc;exact fin _ _ s4 H3 (back I4) I4.free ap ⟨m4,hm4⟩ q
  ·refine thn (T.item (X.comp N scope cl HH.objs.size s2 H2 fp) rfl rfl rfl hc i [] s3 σ3 H3 _ I3 (stat rfl fr3) st3 go) ?_;rintro r s4 ⟨u,hr,h4⟩;subst hr;refine thn h4 ?_;rintro _ s5 ⟨x,H5,I5,r5,y5,st5,fr5⟩;have I5':=I5.pinned (stat rfl fr5) (T.obj _ _ st5);refine Zbk (hg cl HH.objs.size s2 H2 fp _ s5 σ3 H5 x u _ I5' r5 (step x H5 y5)) (?_) λ_ _ f=>f.elim;rintro _ s6 ⟨σ6,H6,I6,q6⟩;have again:∀ {s7:Shared}{σ7:St}{H7:Hp},Inv (X.comp N scope cl HH.objs.size s2 H2 fp) ([]++zF fp s5.heap) σ7 H7 s7->Nx σ7 H7 ->
     ∃ m,m<n/\∃ i O' H',Inv (X.comp N scope cl HH.objs.size s2 H2 fp) [] O' H' s7/\tn i s7.heap/\(∀ b∈fp,H' b=none)/\W i m O' H':=λ{s7 σ7 H7} I7 n7=>by
    obtain⟨m',hm,w7⟩:=hN σ7 H7 n7;refine⟨m',hm,i+1,σ7,H7,I7.uV,T.keep _ _ _ st5 λb hb o e=>(I7.pin (b,o) (ZaJ _ (ZaJ _ (oX hb e)))).1,λb hb=>?_,w7⟩;obtain⟨o,e,d⟩:=T.obj _ _ st5 b hb;exact(I7.pin (b,o) (ZaJ _ (ZaJ _ (oX hb e)))).2.1
   refine Zbk (ht cl HH.objs.size s2 H2 fp _ s6 σ6 H6 _ I6 q6) (?_) λ_ _ f=>f.elim;rintro b s7 ⟨H7,I7,q7⟩;cases b with
   |false=>
    rw[Zal (by decide)] at q7 ⊢
    exact again I7 q7
   |true=>
    rw[Zam rfl] at q7 ⊢;refine Zbk (he cl HH.objs.size s2 H2 fp _ s7 σ6 H7 _ I7 q7) (?_) λ_ _ f=>f.elim;rintro y s8 ⟨v,H8,I8,r8,q8⟩;obtain⟨ys,e8,l8,n8⟩:=q8;refine Zbk (iR (X:=X.comp N scope cl HH.objs.size s2 H2 fp) _ s8 σ6 H8 (.ref s2.heap.objs.size) [v] (.ref s2.heap.objs.size) [y] (λ_ H9=>Nx σ6 H9) I8 rfl (.cons r8 .nil) ⟨_,ys,v,rfl,rfl,e8,l8,n8⟩) (?_) λ_ _ f=>f.elim;rintro _ s9 ⟨_,H9,I9,_,n9⟩;exact again I9 n9
 exact codeAny_compStart_list (loop _ rfl) (T.self _ 0 _ _ _ (T.keep _ _ _ st2 λb _ o e=>old b o e) (loop _ rfl))
theorem d9(N:List Str)(fr:List (Option Nat))(hc:X.calm=true)(hi:PI X tg iter wi)(hg:∀ cl C s2 H2 fp,PG (X.comp N scope cl C s2 H2 fp) tg g)
  (ht:∀ cl C s2 H2 fp,QR (X.comp N scope cl C s2 H2 fp) ifs tc)(he:∀ cl C s2 H2 fp,PE (X.comp N scope cl C s2 H2 fp) elt te)
  (ok:zL X.N N X.env.scope scope fr=true:=by kernel_rfl)(hs:∀ x,foldedSetIterable iter X.env x=pure x:=by intro _;rfl) :
  PE X (.ListComp elt [⟨tg,iter,ifs,0⟩] scope pos) (Ds wi fr g tc te):=by
 intro pins s O H Q I h;rw[eval_ListComp];refine Hz (use:=none) N fr hc hi hg ht he ok hs I h λD C s' H' I' hn ap hm q=>?_;obtain⟨m,hm⟩:=hm;exact⟨m,hm,λh' sb=>⟨.ref D,H',I'.turned (t':=s'.toks) (λb o hb e=>(sb.2 b hb).trans e) hn ap.ne (.inr ap.ab) ap.cells ap.pins,rfl,q⟩⟩
theorem UG{i:Nat}{y:Str}{py spos:Pos}(N:List Str)(fr:List (Option Nat))(hc:X.calm=true)(hN:X.N.Nodup)(hiy:X.N[i]?=some y)(hy:X.env.scope.names.lookup y=some .local)(hi:PI X tg iter wi)
  (hg:∀ cl C s2 H2 fp,PG (X.comp N scope cl C s2 H2 fp) tg g)(ht:∀ cl C s2 H2 fp,QR (X.comp N scope cl C s2 H2 fp) ifs tc)(he:∀ cl C s2 H2 fp,PE (X.comp N scope cl C s2 H2 fp) elt te)
  (ok:zL X.N N X.env.scope scope fr=true:=by kernel_rfl)(hs:∀ x,foldedSetIterable iter X.env x=pure x:=by intro _;rfl)
  (hsw:swapsWith (.ListComp elt [⟨tg,iter,ifs,0⟩] scope pos) (some (.Name y py)) spos.line X.env=pure true:=by rfl) :
  PS X (.Assign [.Name y py] (.ListComp elt [⟨tg,iter,ifs,0⟩] scope pos) spos) (Ou (Ds wi fr g tc te) (yo i)):=by
 intro pins s O H D I h;rw[exec_Assign_Name_used _ _ _ _ hsw];refine Zaa (wpAny_standAt (Zaa ?_));show wpAny _ X.A (do let _ <-comprehension (.ListComp elt [⟨tg,iter,ifs,0⟩] scope pos) scope X.env _ (newList []) false (eval iter X.env) (some (assign (.Name y py) X.env))) _ _ s
 refine Zaa (Zbk (Hz (use:=some (assign (.Name y py) X.env)) (Q':=λ_ s'=>SP X pins D .next s') N fr hc hi hg ht he ok hs I h λDa C s' H' I' hn ap hm q=>?_) (λ_ s' hq=>Zah (Zah hq)) λ_ _ e=>e);obtain⟨m,hm⟩:=hm;show wpAny _ X.A (assign (.Name y py) X.env (.ref Da)) _ _ _
 refine wpAny_assign_Name (Dh I' hN hiy (.inl hy) (v:=.ref Da) rfl (λs'' I'' hsb=>?_) (.inr hy));obtain⟨a,sb,ha⟩:=hsb;have hne:C≠a:=by
  rcases ha with z|z
  ·rw[z];exact ap.ne
  ·exact Zbl (ap.cells y a z)
 exact⟨m,hm.sameBut sb hne,λh' sb'=>⟨_,H',I''.turned (t':=s''.toks) (λb o hb e=>(sb'.2 b hb).trans e) hn ap.ne (.inr ap.ab) ap.cells ap.pins,q⟩⟩
end
section
variable{X:Cx}{pins:List (Addr×Obj)}{O:List (Option V)}{H:Hp}{s:Shared}{h':Heap}
theorem Inv.rD{t':Nat}{ch:List Addr}(I:Inv X pins O H s)(k:∀ b o,b ∉ ch->s.heap.get? b=some o->h'.get? b=some o)(hf:∀ b∈ch,zE X pins H b):Inv X pins O H { s with heap:=h',toks:=t' }:=by
 have nit:∀ b u,H b=some u->b ∉ ch:=λb u e z=>by rw[(hf b z).1] at e;cases e
 refine I.step (g':=s.gens) (d':=s.drawn) (ch:=ch) (λb hb=>⟨(hf b hb).2.2.2.1,(hf b hb).2.1,(hf b hb).2.2.2.2.1,(hf b hb).2.2.2.2.2⟩) (λb o _ _ hc e _=>k b o hc e) (λb o _ _ hc e _=>⟨o.slots,k b o hc e⟩) (λ_ _ _ _ n=>n)
  (λb o hc e=>⟨o,k b o hc e⟩) (λ_ _ e=>e) (λ_ _ _ e=>e) (λb ps e=>⟨#[],by rw[e];simp⟩) (λm hm=>?_) (λb u e=>?_) I.bare
 ·obtain⟨o,es,ep,ho,r⟩:=hm;exact⟨o,es,ep,k _ o (λz=>(hf _ z).2.1 rfl) ho,r⟩
 ·refine(I.hok b u e).stay (λc v hc q=>k c v ?_ q) (λ_ q=>q) λ_ _ q=>q;rcases hc with z|z
  ·rw[z];exact nit b u e
  ·exact nit c _ z
theorem Inv.rE{t':Nat}{ch:List Addr}{a:Addr}{o:HO}(I:Inv X pins O H s)(k:∀ b o,b ∉ ch->s.heap.get? b=some o->h'.get? b=some o)(hf:∀ b∈ch,zE X pins H b)(ha:s.heap.objs.size<=a)
  (new:dG X.prog X.w (upd H a o) h' a o):Inv X pins O (upd H a o) { s with heap:=h',toks:=t' }:=by
 have hn:H a=none:=I.hok.fresh ha;have nit:∀ b u,H b=some u->b ∉ ch:=λb u e z=>by rw[(hf b z).1] at e;cases e
 have ne:∀ b ob,s.heap.get? b=some ob->b≠a:=λb ob e z=>by rw[z] at e;exact absurd (ZaG (Zau e) ha) (ZbU _)
 refine I.step (g':=s.gens) (d':=s.drawn) (ch:=ch) (λb hb=>⟨(hf b hb).2.2.2.1,(hf b hb).2.1,(hf b hb).2.2.2.2.1,(hf b hb).2.2.2.2.2⟩) (λb o _ _ hc e _=>k b o hc e) (λb o _ _ hc e _=>⟨o.slots,k b o hc e⟩) (λb ob _ e n=>by rw[aJ (ne b ob e)];exact n)
  (λb o hc e=>⟨o,k b o hc e⟩) (λb xs e=>by rw[aJ (bR e hn)];exact e) (λb ob u e=>by rw[aJ (bR e hn)];exact e) (λb ps e=>⟨#[],by rw[aJ (bR e hn),e];simp⟩) (λm hm=>?_) (λb u e=>?_) I.bare
 ·obtain⟨o,es,ep,ho,r⟩:=hm;exact⟨o,es,ep,k _ o (λz=>(hf _ z).2.1 rfl) ho,r⟩
 ·by_cases hb:b=a
  ·subst hb;rw[aN] at e;cases e;exact new
  ·rw[aJ hb] at e;refine(I.hok b u e).stay (λc v hc q=>k c v ?_ q) (λc q=>by rw[aJ (bR q hn)];exact q) λc xs q=>by rw[aJ (bR q hn)];exact q
   rcases hc with z|z
   ·rw[z];exact nit b u e
   ·exact nit c _ z
end
def Itf(f:Nat->V)(n:Nat):It:=⟨λi _=>i<n,λi H x H'=>H'=H/\x=f i,λi _=>i=n⟩
def sgn(z:Str)(i:Nat):V:=.str ⟨#[z.cps.getD i 0]⟩
theorem Dt{P:Program}{w:World}{A:Around}(hh:A.handled=none)(it:Addr)(z:Str)(t:Tok):Walks P w A it [it] [it] z.cps.size (SignAt z) (λi h=>h.IsStrIter it (strIterType z) z t i):=by
 unfold strIterType;split
 ·exact Walks.strAscii hh it z t
 ·exact Walks.strWide hh it z t
theorem QT{P:Program}{w:World}{K:Frag}{tg:Expr}(it:Addr)(z:Str)(t:Tok):Turn P w K tg (Itf (sgn z) z.cps.size) [it] it (λi h=>h.IsStrIter it (strIterType z) z t i) where
 mem:=by simp
 obj:=λi h st b hb=>by
  have e:b=it:=by simpa using hb
  subst e;obtain⟨o,e,c,d⟩:=st;exact⟨o,e,λv z=>by rw[d] at z;cases z⟩
 keep:=λi h h' st k=>let⟨o,e,r⟩:=st;⟨o,k it (by simp) o e,r⟩
 item:=by
  intro X hP hw hK hc i pins s O H E I hf st hg;subst hP hw hK;obtain⟨f0,f1,f2,f3,f4,f5⟩:=hf it (by simp)
  have W:=Dt (P:=X.prog) (w:=X.w) (I.ok.hd hc) it z t;refine W.item i s _ _ hg st λv h' tk hv st' kk=>?_;obtain⟨c,u,hx,rfl⟩:=hv;have I1:Inv X pins O H { s with heap:=h',toks:=tk }:=I.turned (λb o hb e=>kk b o (by simpa using hb) e) f0 f1 f3 f4 f5
  obtain⟨o,e,cc,d⟩:=id st';have ec:z.cps.getD i 0=c:=by rw[ZaN,hx];rfl
  refine⟨_,rfl,Dj (s:={ s with heap:=h',toks:=tk }) e cc d (by unfold strIterType;split<;>decide) ⟨sgn z i,H,I1,⟨u,?_⟩,⟨rfl,rfl⟩,st',λb hb=>(hf b hb).1⟩⟩
  rw[ec]
 done:=by
  intro X hP hw hK hc i pins s O H E I hf st hg;subst hP hw hK;have hg':i=z.cps.size:=hg;subst hg';obtain⟨f0,f1,f2,f3,f4,f5⟩:=hf it (by simp)
  have W:=Dt (P:=X.prog) (w:=X.w) (I.ok.hd hc) it z t;exact W.done s _ _ st λh' tk kk=>⟨rfl,I.turned (λb o hb e=>kk b o (by simpa using hb) e) f0 f1 f3 f4 f5⟩
 self:=λA i s Q E st h=>by
  unfold strIterType at st;split at st
  ·exact wpAny_pyIter_striter_ascii st h
  ·exact wpAny_pyIter_striter_wide st h
def Ite(K:Frag)(a:Addr):It:=
 ⟨λi H=>∃ xs x,SqL K H a xs/\xs[i]?=some x,λi H x H'=>∃ p y,H p=none/\x=.ref p/\H'=upd H p (.tup [.int i,y])/\∀ xs,SqL K H a xs->xs[i]?=some y,λi H=>∃ xs,SqL K H a xs/\xs.length<=i⟩
theorem O6{P:Program}{w:World}{K:Frag}{elts:List Expr}{x1:Nat}{pos:Pos}(a e it:Addr)(hei:e≠it) :
  Turn P w K (.Tuple elts x1 pos) (Ite K a) [e,it] e (λi h=>(∃ old,IsEnum h e it (i:Int) old)/\h.IsListIter it a i) where
 mem:=by simp
 obj:=λi h st b hb=>by
  obtain⟨⟨old,he⟩,o,ho,c,d⟩:=st;rcases ZaC.mp hb with z|z
  ·subst z;exact⟨_,he,λv q=>by cases q⟩
  ·have z:b=it:=by simpa using z
   subst z;exact⟨o,ho,λv q=>by rw[d] at q;cases q⟩
 keep:=λi h h' st k=>by
  obtain⟨⟨old,he⟩,hit⟩:=st;exact⟨⟨old,k e (by simp) _ he⟩,hit.at λo q=>k it (by simp) o q⟩
 item:=by
  intro X hP hw hK hc i pins s O H E I hf st hg;subst hP hw hK;obtain⟨xs,x,hq,hx⟩:=hg;obtain⟨its,rv,p,hz⟩:=I.list hq;obtain⟨u,hu,ru⟩:=rv.get hx;obtain⟨⟨old,he⟩,hit⟩:=st;have hl:=p.isList;have hai:a≠it:=by
   rintro rfl;obtain⟨o1,e1,c1,_⟩:=hl;obtain⟨o2,e2,c2,_⟩:=hit;rw[e1] at e2;cases e2;rw[c1] at c2;exact absurd c2 (by decide)
  have hae:a≠e:=by
   rintro rfl;obtain⟨o1,e1,c1,_⟩:=hl;rw[he] at e1;cases e1;exact absurd (show Value.type "enumerate"=Value.type "list" from c1) (by decide)
  have D:=Draws.list (prog:=X.prog) (w:=X.w) (A:=X.A.in1) (I.ok.hd hc) it a hai its.toArray;have hlt:i<its.toArray.size:=by
   have:=(Zad.mp hu).1;simpa using this
  refine wpAny_pyNext_enum_itemD D he ⟨hit,hl⟩ hlt hei (by simp[hei,Zbl hae]) λv h1 tk hP ho hst hT hsz hk=>?_
  have ev:v=u:=by
   have hP':its.toArray[i]?=some v:=hP;rw[Zbg,hu] at hP';exact(Zaf hP').symm
  subst ev;refine⟨_,rfl,wpAny_letOwnedTupleGo_enum ho λh2 he2 hs2=>?_⟩;have elt:e<s.heap.objs.size:=Zau he;have hT2:h2.get? s.heap.objs.size=some { cls:=.type "tuple",data:=.seq #[.int i tk,v] }:=(hs2.2 _ (Zb4 elt)).trans hT;refine⟨.ref s.heap.objs.size,upd H s.heap.objs.size (.tup [.int i,x]),I.rE (ch:=[e,it]) (λb o hb q=>?_) hf (Zan _) ⟨by show 2<=sizeLine;decide,[.int i tk,v],.cons ⟨tk,rfl⟩ (.cons ru .nil),gb.mk hT2⟩,rfl,⟨_,x,I.hok.fresh (Zan _),rfl,rfl,λys hy=>by rw[I.qi hy hq];exact hx⟩,⟨⟨v,by simpa using he2⟩,?_⟩,λb hb=>?_⟩
  ·have h1':b≠e:=λz=>hb (by simp[z])
   have h2':b≠it:=λz=>hb (by simp[z])
   exact(hs2.2 b h1').trans (hk b o h1' h2' q)
  ·exact hst.1.at λo q=>(hs2.2 it (Zbl hei)).trans q
  ·rw[aJ ?_]
   ·exact(hf b hb).1
   ·rcases ZaC.mp hb with z|z
    ·rw[z];exact ZaE elt
    ·have z:b=it:=by simpa using z
     rw[z];obtain⟨o2,e2,_⟩:=hit;exact ZaE (Zau e2)
 done:=by
  intro X hP hw hK hc i pins s O H E I hf st hg;subst hP hw hK;obtain⟨xs,hq,hx⟩:=hg;obtain⟨its,rv,p,hz⟩:=I.list hq;obtain⟨⟨old,he⟩,hit⟩:=st;have hl:=p.isList;have ln:=rv.length;refine wpAny_pyNext_enum_end (I.ok.hd hc) he hit hl (by rw[Zbg];exact ZbR.mpr (by omega)) λh1 eb=>⟨rfl,?_⟩
  exact I.rD (t':=s.toks) (ch:=[e,it]) (λb o hb q=>eb b o (λz=>hb (by simp[z])) q) hf
 self:=λA i s Q E st h=>by
  obtain⟨⟨old,he⟩,_⟩:=st;exact wpAny_pyIter_enum he h
def V9(K:Frag)(ta:TA):TI:=λO H R=>ta O H λvs H1=>∃ a,vs=[.ref a]/\(∃ xs,SqL K H1 a xs)/\R (Ite K a) H1
theorem Fj{X:Cx}{l:Expr}{ta:TA}{elts:List Expr}{x1:Nat}{tpos p pos:Pos}(hg:Gl X "enumerate")(hm:X.mg "enumerate"=none)(ha:PA X [l] ta)(hs:starEach [l] X.env=[(false,eval l X.env)]:=by rfl) :
  PI X (.Tuple elts x1 tpos) (.Call (.Name "enumerate" p) [l] [] pos) (V9 X.K ta):=by
 intro pins s O H R I h;refine Call_ (ue I hg hm boot_enumerate (Zbr (thn (ha pos pins s O H _ I h) ?_) hs rfl));rintro us s1 ⟨vs,H1,I1,r1,q1⟩;obtain⟨a,e,⟨xs,hq⟩,q⟩:=q1;subst e;cases r1 with
 |cons r rr=>
  cases rr;cases r;obtain⟨its,rv,p,hz⟩:=I1.list hq;refine call_enumerate_list p.isList λh1 he hit hsz hk=>?_;refine wpAny_pyIter_enum he ?_;have I2:Inv X pins O H1 { s1 with heap:=h1 }:=I1.kept (t':=s1.toks) hk;refine⟨s1.heap.objs.size+1,[s1.heap.objs.size+1,s1.heap.objs.size],_,_,H1,rfl,I2,O6 a _ _ (by simp),⟨⟨_,he⟩,hit⟩,λb hb=>?_,q⟩
  rcases ZaC.mp hb with z|z
  ·subst z;exact I1.Cv (ZbQ _) (I1.hok.fresh (ZbQ _))
  ·have z:b=s1.heap.objs.size:=by simpa using z
   subst z;exact I1.Cv (Zan _) (I1.hok.fresh (Zan _))
section
variable{X:Cx}{b e:Expr}
theorem all_range(bs:List Bool):(List.range bs.length).all (λi=>bs.getD i true)=bs.all id:=by
 rw[Zco];simp only[ZaT,Zay,id];constructor
 ·intro h x hx;obtain⟨i,hi,rfl⟩:=List.mem_iff_getElem.mp hx;have:=h i hi;simpa[Zao,hi] using this
 ·intro h i hi;have:=h bs[i] (ZbY hi);simpa[Zao,hi] using this
theorem QV(hc:X.calm=true):jR X (.builtin "all") (λxs H Q=>∃ (p:Addr) (bs:List Bool),xs=[.ref p]/\SqL X.K H p (bs.map V.bl)/\Q (.bl (bs.all id)) H):=by
 intro pins s O H xs us Q I rv h;obtain⟨p,bs,rfl,hq,q⟩:=h;obtain⟨u,rfl,ru⟩:=rv.one;cases ru;obtain⟨its,r,pl,hz⟩:=I.list hq;have ln:=r.length;rw[Zab] at ln;refine call_all_walk (wpAny_pyIter_list pl.isList ?_);have hne:p≠s.heap.objs.size:=by
  obtain⟨o,n,e,_⟩:=pl;exact ZaE (Zau e)
 refine⟨s.heap.objs.size,_,_,_,_,_,λi=>bs.getD i true,rfl,Walks.list (A:=X.A.in1) (I.ok.hd hc) s.heap.objs.size p hne its.toArray,⟨⟨_,Zar _ rfl,rfl,rfl⟩,pl.isList.at λo e=>Zaj _ e⟩,?_,λh' tk kk=>?_⟩
 ·intro i v s' Q' E' hP hQ;have hP':its.toArray[i]?=some v:=hP;rw[Zbg] at hP';have hi:i<its.length:=(Zad.mp hP').1;have hb:(bs.map V.bl)[i]?=some (V.bl (bs.getD i true)):=by
   rw[Zac,Zae (by omega)]
   simp[Zao,show i<bs.length by omega]
  obtain⟨u,hu,ru⟩:=r.get hb;rw[hP'] at hu;cases hu;cases ru;exact wpAny_truthy_bool hQ
 ·have en:(List.range its.toArray.size).all (λi=>bs.getD i true)=bs.all id:=by
   rw[List.size_toArray,<-ln];exact all_range bs
  rw[en];refine⟨.bl _,H,?_,rfl,q⟩;refine I.kept λb o e=>kk b o ?_ (Zaj _ e);simp;exact ZaE (Zau e)
theorem O7:OpR X (compareOp .LtE) (λx y H Q=>∃ i j,x=.str i/\y=.str j/\Q (.bl (!(decide (j.cps.toList<i.cps.toList)))) H):=by
 intro pins s O H x y v u Q I rx ry h;obtain⟨i,j,rfl,rfl,q⟩:=h;obtain⟨t,rfl⟩:=rx;obtain⟨t',rfl⟩:=ry;exact PySem.P.le_str (zH I q rfl)
end
structure bj(K:Frag)(mg:Str->Option Value)(x:Str)(st:Stmt)(ps:List Str):Prop where
 ex:∃ (f:Addr) (fd:FuncData),mg x=some (.ref f)/\Fun K x x st f fd/\Binds K fd ps []
def FnAt(P:Program)(w:World)(K:Frag)(mg:Str->Option Value)(base:Heap)(x:Str)(k:Nat)(ps:List Str)(sp:Sp):Prop:=
 ∃ (f:Addr) (fd:FuncData),mg x=some (.ref f)/\keepIn K (.ref f)=true/\Binds K fd ps []/\sI P w K mg base CX0 k f fd ps sp
theorem bj.ok{P:Program}{w:World}{K:Frag}{mg:Str->Option Value}{base:Heap}{x:Str}{st:Stmt}{ps N:List Str}{k:Nat}{sp:Sp}(D:bj K mg x st ps)(S:bu N ps (aG st))(len:∀ vs H Q E,sp vs H Q E->vs.length=ps.length)
  (hbody:∀ (f:Addr) (cdv:Value) (A:Around) (outer:List Env) (s:Shared) (H:Hp) (vs:List V) (Q:VK) (E:XK),fu k (A.deeper (envOfC x (aG st) s.heap.objs.size f cdv))->sp vs H Q E ->
   ∃ t,PSs (KH CX0 P w K mg base N x (aG st) f cdv A outer s H E).nox (bw st) t/\t { nx:=λ_ H'=>Q .non H',rt:=Q } (start N vs) H):FnAt P w K mg base x (k+1) ps sp:=by
 obtain⟨f,fd,e,F,b⟩:=D.ex;exact⟨f,fd,e,F.kp,b,F.ok S len λcdv A outer s H vs Q E=>hbody f cdv A outer s H vs Q E⟩
section
variable{X:Cx}{k:Nat}{ps:List Str}{sp:Sp}{x:Str}{p pos:Pos}{e:Expr}{es:List Expr}{t:TA}
theorem aQ(G:FnAt X.prog X.w X.K X.mg X.base x k ps sp)(hr:fu k X.A)(hg:Gl X x)(ha:PA X (e::es) t)(hdb:(x==("__debug__":Str))=false:=by decide)
  (he:starEach (e::es) X.env=(false,eval e X.env)::starEach es X.env:=by rfl)(hpl:(backTo pos (starEach es X.env)).any (·.1)=false:=by rfl):PE X (.Call (.Name x p) (e::es) [] pos) (zJ sp [] E0 t):=by
 obtain⟨f,fd,e1,e2,e3,e4⟩:=G;exact Ur e4 hr hg e1 e2 e3 .nil YL ha hdb he hpl
end
section
variable{X:Cx}{N:List Str}{scope:Scope}{cl:List (Str×Addr)}{C:Addr}{s2:Shared}{H2:Hp}{fp:List Addr}{x:Str}{pos:Pos}
theorem pvl(i:Nat)(hN:N[i]?=some x:=by rfl)(hv:scope.names.lookup x=some .local:=by rfl)(hd:(x==("__debug__":Str))=false:=by decide)(hcd:(x==("__classdict__":Str))=false:=by decide) :
  PE (X.comp N scope cl C s2 H2 fp) (.Name x pos) (lJ i):=Km hN (.inl (lK (by decide) hv)) hd hcd
theorem pvf(i:Nat)(hN:N[i]?=some x:=by rfl)(hv:scope.names.lookup x=some .free:=by rfl)(hd:(x==("__debug__":Str))=false:=by decide)(hcd:(x==("__classdict__":Str))=false:=by decide) :
  PE (X.comp N scope cl C s2 H2 fp) (.Name x pos) (lJ i):=Km hN (.inr (u9 hv)) hd hcd
theorem glc(h:scope.names.lookup x=some .globalImplicit):Gl (X.comp N scope cl C s2 H2 fp) x:=lK (by decide) h
theorem cj{i:Nat}(hN:N.Nodup)(hi:N[i]?=some x)(hx:scope.names.lookup x=some .local):PG (X.comp N scope cl C s2 H2 fp) (.Name x pos) (yo i):=
 cZ hN hi (.inl (lK (by decide) hx)) (.inr (lK (by decide) hx))
end
section
variable{X:Cx}{x:Str}{z:Str}{pos:Pos}
theorem vd(hg:Gl X x)(h:∃ t,X.mg x=some (.str z t))(hd:(x==("__debug__":Str))=false:=by decide):PE X (.Name x pos) (tC (.str z)):=by
 obtain⟨t,h⟩:=h;exact Ul hg h ⟨t,rfl⟩ hd
theorem HB{n:String}(hg:Gl X x)(hm:X.mg x=none)(hv:bootBuiltins x=some (.type n))(hn:x≠"__name__":=by decide)(hd:(x==("__debug__":Str))=false:=by decide):PE X (.Name x pos) (tC (.ty n)):=
 Um hg hm hv rfl hn hd
end
theorem tyL{K:Frag}{H:Hp}{p:Addr}{xs:List V}(h:H p=some (.lst xs)):tyV K "list" (.ref p) H:=.inl ⟨rfl,xs,SqL.of h⟩
theorem dU{H:Hp}{p:Addr}{o:HO}(h:H p=none):aU H (upd H p o):=λb u e=>by rw[aJ (bR e h)];exact e
theorem Du{H H1:Hp}{p:Addr}{o:HO}(h:H p=none)(s:aU H H1):aU H (upd H1 p o):=λb u e=>by rw[aJ (bR e h)];exact s b u e
theorem aU.tup{K:Frag}{H H':Hp}{a:Addr}{xs:List V}(e:aU H H')(h:SqT K H a xs):SqT K H' a xs:=by
 rcases h with(h|⟨o,h⟩)|h
 ·exact .inl (.inl (e _ _ h))
 ·exact .inl (.inr ⟨o,e _ _ h⟩)
 ·exact .inr h
theorem QW{α:Type}{xs:List α}{i:Int}(h0:0<=i)(h:i<xs.length):∃ v,atI xs i=some v/\xs[i.toNat]?=some v:=by
 have hl:i.toNat<xs.length:=by lia
 refine⟨xs[i.toNat],?_,by simp[hl]⟩
 have:=mU (xs:=xs) (j:=i.toNat) (v:=xs[i.toNat]) (by simp[hl])
 rwa [Zbv h0] at this
theorem QX{K:Frag}{T:String}:PySem.W.kitOne K (.type T) (.type T)=some true:=by
 unfold PySem.W.kitOne;rw[Zam (by simp)]
def ZG(J:It)(g:TG)(tb:TS)(D:Ends)(O:St)(H:Hp):Prop:=∃ W:Nat->Nat->St->Hp->Prop,(∃ m,W 0 m O H)/\∀ i m O H,W i m O H ->
 (J.stop i H/\D.nx O H)\/(J.go i H/\∃ N:St->Hp->Prop,(∀ O' H',N O' H'->∃ m',m'<m/\W (i+1) m' O' H')/\∀ x H',J.yld i H x H'->g x O H' λσ2 H2=>tb { D with nx:=N,ct:=N,bk:=D.nx } σ2 H2)
theorem Xg{n:Nat}{i:Int}(h0:0<=i)(h:i<n):ixN n i=some i.toNat:=by
 unfold ixN;rw[Zam h0,Zam h]
def SameBut(p:Addr)(H H':Hp):Prop:=∀ b o,H b=some o->b≠p->H' b=some o
theorem SameBut.refl(p:Addr)(H:Hp):SameBut p H H:=λ_ _ e _=>e
theorem aU.but{H H':Hp}(p:Addr)(s:aU H H'):SameBut p H H':=λb o e _=>s b o e
theorem SameBut.upd{H H1:Hp}{p:Addr}{o:HO}(s:SameBut p H H1):SameBut p H (upd H1 p o):=λb u e n=>by rw[aJ n];exact s b u e n
theorem SameBut.new{H H1:Hp}{p q:Addr}{o:HO}(s:SameBut p H H1)(h:H q=none):SameBut p H (L2.upd H1 q o):=λb u e n=>by rw[aJ (bR e h)];exact s b u e n
theorem SameBut.trans{p:Addr}{H H1 H2:Hp}(a:SameBut p H H1)(b:SameBut p H1 H2):SameBut p H H2:=λc o e n=>b c o (a c o e n) n
theorem SameBut.tup{K:Frag}{H H':Hp}{p a:Addr}{xs ys:List V}(e:SameBut p H H')(hp:H p=some (.lst ys))(h:SqT K H a xs):SqT K H' a xs:=by
 rcases h with(h|⟨o,h⟩)|h
 ·exact .inl (.inl (e _ _ h (Hn h hp (by intro z;cases z))))
 ·exact .inl (.inr ⟨o,e _ _ h (Hn h hp (by intro z;cases z))⟩)
 ·exact .inr h
section
variable{X:Cx}{N:List Str}{scope:Scope}{cl:List (Str×Addr)}{C:Addr}{s2:Shared}{H2:Hp}{fp:List Addr}
theorem vf{es:List Expr}{k:Nat}{t:TGs}{n:Nat}{pos:Pos}(hc:X.calm=true)(h:PGs (X.comp N scope cl C s2 H2 fp) es t)
  (hn:(assignEach es (X.comp N scope cl C s2 H2 fp).env).length=n:=by rfl)(hst:(assignEach es (X.comp N scope cl C s2 H2 fp).env).findIdx? (·.1)=none:=by rfl):PG (X.comp N scope cl C s2 H2 fp) (.Tuple es k pos) (WW X.K n t):=Kr hc h hn hst
end
theorem nY{α β:Type}(f:α->β)(xs:List α):∀ js:List Nat,(js.filterMap ((xs.map f)[·]?)).length=(js.filterMap (xs[·]?)).length
 |[]=>rfl
 |j::js=>by
  cases e:xs[j]? with
  |none=>
   have e':(xs.map f)[j]?=none:=by rw[Zac,e];rfl
   rw[List.filterMap_cons_none e,List.filterMap_cons_none e',nY f xs js]
  |some v=>
   have e':(xs.map f)[j]?=some (f v):=by rw[Zac,e];rfl
   rw[List.filterMap_cons_some e,List.filterMap_cons_some e',ZaP,ZaP,nY f xs js]
section
theorem vg{xs:List V}{its:List Value}(r:Vals xs its){j:Nat}(h:j<its.toArray.size):∃ x,xs[j]?=some x/\RelV x its.toArray[j]:=by
 have hl:j<its.length:=by simpa using h
 have hx:j<xs.length:=by rw[r.length];exact hl
 obtain⟨u,hu,ru⟩:=r.get (i:=j) (x:=xs[j]) (by simp[hx])
 refine⟨xs[j],by simp[hx],?_⟩
 have:its.toArray[j]=u:=by
  rw[Zae hl] at hu;simpa using hu
 rw[this];exact ru
end
section
variable{k:Nat}
theorem KY{A:Around}(hr:fu k A):A.units+32<cLine:=Zbn (Nat.add_le_add_left (by decide:32<=64) _) hr.units
end
def Fl(H:Hp)(xs:List V)(ps:List (Int×Int)):Prop:=xs.length=ps.length/\∀ (j:Nat) (c:Int×Int),ps[j]?=some c->∃ a,xs[j]?=some (.ref a)/\H a=some (.tup [.int c.1,.int c.2])
section
variable{κ:Type}[DecidableEq κ]
def jE(kvs:List (κ×V))(k:κ):Option V:=(kvs.find? λkv=>decide (kv.1=k)).map (·.2)
def putK(kvs:List (κ×V))(k:κ)(v:V):List (κ×V):=
 if(kvs.any λkv=>decide (kv.1=k))=true then kvs.map (λkv=>if kv.1=k then(kv.1,v) else kv) else kvs++[(k,v)]
def Dv(kvs:List (κ×V))(k:κ):List (κ×V):=kvs.filter λkv=>decide (kv.1≠k)
theorem qm{p:κ×V}{r:List (κ×V)}{k:κ}(e:p.1=k):jE (p::r) k=some p.2:=by simp[jE,Zb5,e]
theorem lW{p:κ×V}{r:List (κ×V)}{k:κ}(e:¬p.1=k):jE (p::r) k=jE r k:=by simp[jE,Zb5,e]
theorem zM(k:κ):∀ kvs:List (κ×V),(kvs.any λkv=>decide (kv.1=k))=(jE kvs k).isSome
 |[]=>rfl
 |p::r=>by
  rw[Zb7];by_cases e:p.1=k
  ·simp only[qm e,ZaF e,Bool.true_or,ZbO]
  ·rw[lW e,ZaH e,Bool.false_or];exact zM k r
theorem jT(kvs:List (κ×V))(k:κ)(v:V):(putK kvs k v).length<=kvs.length+1:=by
 unfold putK;split
 ·rw[Zab];omega
 ·rw[Zas,ZaP,Zcp];omega
theorem QZ{kvs:List (κ×V)}{k:κ}(v:V)(h:jE kvs k=none):putK kvs k v=kvs++[(k,v)]:=by
 unfold putK;rw[zM,h];exact Zal (by decide)
theorem yN.nZ{o:Option V}{u:Option Value}(r:yN o u):o.isSome=u.isSome:=by
 cases o with
 |none=>cases u with
  |none=>rfl
  |some _=>exact(show False from r).elim
 |some _=>cases u with
  |none=>exact(show False from r).elim
  |some _=>rfl
theorem yN.getD{o:Option V}{u:Option Value}{d:V}{d':Value}(r:yN o u)(rd:RelV d d'):RelV (o.getD d) (u.getD d'):=by
 cases o with
 |none=>cases u with
  |none=>exact rd
  |some _=>exact(show False from r).elim
 |some _=>cases u with
  |none=>exact(show False from r).elim
  |some _=>exact r
theorem KV.val{kvs:List (κ×V)}{vs:List (κ×Value)}(r:KV kvs vs)(k:κ):yN (jE kvs k) (valueAt vs k):=by
 unfold KV at r;induction r with
 |nil=>exact True.intro
 |@cons p q ps qs h t ih=>
  obtain⟨h1,h2⟩:=h;by_cases e:p.1=k
  ·have e':q.1=k:=h1.symm.trans e;have b:valueAt (q::qs) k=some q.2:=by simp[valueAt,Zb5,e']
   rw[qm e,b];exact h2
  ·have e':¬q.1=k:=λz=>e (h1.trans z);have b:valueAt (q::qs) k=valueAt qs k:=by simp[valueAt,Zb5,e']
   rw[lW e,b];exact ih
theorem KV.any{kvs:List (κ×V)}{vs:List (κ×Value)}(r:KV kvs vs)(k:κ):(kvs.any λkv=>decide (kv.1=k))=vs.any λkv=>decide (kv.1=k):=by
 unfold KV at r;induction r with
 |nil=>rfl
 |cons h t ih=>rw[Zb7,Zb7,ih,h.1]
theorem KV.repl{kvs:List (κ×V)}{vs:List (κ×Value)}(r:KV kvs vs)(k:κ){y:V}{u:Value}(ry:RelV y u) :
  KV (kvs.map λkv=>if kv.1=k then(kv.1,y) else kv) (vs.map λkv=>if kv.1=k then(kv.1,u) else kv):=by
 unfold KV at r ⊢;induction r with
 |nil=>exact .nil
 |@cons p q ps qs h t ih=>
  rw[Zaq,Zaq];refine .cons ?_ ih;obtain⟨h1,h2⟩:=h;by_cases e:p.1=k
  ·rw[Zam e,Zam (h1.symm.trans e)];exact⟨h1,ry⟩
  ·rw[Zal e,Zal (λz=>e (h1.trans z))];exact⟨h1,h2⟩
theorem KV.put{kvs:List (κ×V)}{vs:List (κ×Value)}(r:KV kvs vs)(k:κ){y:V}{u:Value}(ry:RelV y u):KV (putK kvs k y) (stored vs k u):=by
 unfold putK stored;rw[r.any k];by_cases e:(vs.any λkv=>decide (kv.1=k))=true
 ·rw[Zam e,Zam e];exact r.repl k ry
 ·rw[Zal e,Zal e];exact Paired.snoc r ⟨rfl,ry⟩
theorem KV.drop{kvs:List (κ×V)}{vs:List (κ×Value)}(r:KV kvs vs)(k:κ):KV (Dv kvs k) (without vs k):=by
 unfold KV at r ⊢;unfold Dv without;induction r with
 |nil=>exact .nil
 |@cons p q ps qs h t ih=>
  obtain⟨h1,h2⟩:=h;rw[Za8,Za8];by_cases e:p.1=k
  ·have a:¬decide (p.1≠k)=true:=by simp[e]
   have b:¬decide (q.1≠k)=true:=by simp[h1.symm.trans e]
   rw[Zal a,Zal b];exact ih
  ·have e':¬q.1=k:=λz=>e (h1.trans z);have a:decide (p.1≠k)=true:=by simp[e]
   have b:decide (q.1≠k)=true:=by simp[e']
   rw[Zam a,Zam b];exact .cons ⟨h1,h2⟩ ih
theorem KV.keys{kvs:List (κ×V)}{vs:List (κ×Value)}(r:KV kvs vs):kvs.map (·.1)=vs.map (·.1):=by
 unfold KV at r;induction r with
 |nil=>rfl
 |cons h t ih=>rw[Zaq,Zaq,ih,h.1]
theorem KV.length{kvs:List (κ×V)}{vs:List (κ×Value)}(r:KV kvs vs):kvs.length=vs.length:=ZcD r
end
theorem yt{P:Program}{w:World}{k:Key}{u:Value}(r:RelV (kV k) u):(bN P w).is k u=true:=by
 cases k with
 |inl i=>obtain⟨t,e⟩:=(show ∃ t,u=Value.int i t from r);subst e;exact Hl P w i t
 |inr x=>obtain⟨t,e⟩:=(show ∃ t,u=Value.str x t from r);subst e;exact Hm P w x t
theorem Dw{P:Program}{w:World}:∀ {ks:List Key}{us:List Value},Vals (ks.map kV) us->ItemsAre (bN P w) ks us
 |[],_,r=>by rw[Zcu] at r;cases r;exact .nil
 |k::ks,_,r=>by
  rw[Zaq] at r;cases r with
  |cons h t=>exact .cons (yt h) (Dw t)
noncomputable abbrev KT(H:Hp):List (List Key×V)->List (List Key×Addr×Value)->Prop:=Paired λp q=>p.1=q.1/\H q.2.1=some (.tup (p.1.map kV))/\RelV p.2 q.2.2
theorem KT.val{H:Hp}{kvs:List (List Key×V)}{xs:List (List Key×Addr×Value)}(r:KT H kvs xs)(k:List Key):yN (jE kvs k) ((atKey xs k).map (·.2)):=by
 induction r with
 |nil=>exact True.intro
 |@cons p q ps qs h t ih=>
  obtain⟨h1,_,h2⟩:=h;by_cases e:p.1=k
  ·have e':q.1=k:=h1.symm.trans e;have b:atKey (q::qs) k=some q.2:=by simp[atKey,Zb5,e']
   rw[qm e,b];exact h2
  ·have e':¬q.1=k:=λz=>e (h1.trans z);have b:atKey (q::qs) k=atKey qs k:=by simp[atKey,Zb5,e']
   rw[lW e,b];exact ih
theorem KT.repl{H:Hp}{kvs:List (List Key×V)}{xs:List (List Key×Addr×Value)}(r:KT H kvs xs)(k:List Key){y:V}{u:Value}(ry:RelV y u) :
  KT H (kvs.map λkv=>if kv.1=k then(kv.1,y) else kv) (xs.map (putAt k u)):=by
 induction r with
 |nil=>exact .nil
 |@cons p q ps qs h t ih=>
  rw[Zaq,Zaq];refine .cons ?_ ih;obtain⟨h1,h2,h3⟩:=h;unfold putAt;by_cases e:p.1=k
  ·rw[Zam e,Zam (h1.symm.trans e)];exact⟨h1,h2,ry⟩
  ·rw[Zal e,Zal (λz=>e (h1.trans z))];exact⟨h1,h2,h3⟩
theorem KT.put{H:Hp}{kvs:List (List Key×V)}{xs:List (List Key×Addr×Value)}(r:KT H kvs xs)(k:List Key){b:Addr}{y:V}{u:Value}(hb:H b=some (.tup (k.map kV)))(ry:RelV y u) :
  KT H (putK kvs k y) (storedH xs k b u):=by
 have e:(kvs.any λkv=>decide (kv.1=k))=(atKey xs k).isSome:=by
  rw[zM,(r.val k).nZ,ZcT]
 unfold putK storedH;rw[e];by_cases q:(atKey xs k).isSome=true
 ·rw[Zam q,Zam q];exact r.repl k ry
 ·rw[Zal q,Zal q];exact Paired.snoc r ⟨rfl,hb,ry⟩
theorem KT.keeps{H H':Hp}{kvs:List (List Key×V)}{xs:List (List Key×Addr×Value)}(r:KT H kvs xs)(ht:∀ b ys,H b=some (.tup ys)->H' b=some (.tup ys)):KT H' kvs xs:=
 Paired.WQ r λ_ _ z=>⟨z.1,ht _ _ z.2.1,z.2.2⟩
section
variable{P:Program}{w:World}{H:Hp}{h:Heap}{a:Addr}
theorem Wa{u:HO}(ok:HOk P w H h)(e:Rd H a u):dG P w H h a u:=e.ok ok
theorem vh{kvs:List (Key×V)}(ok:HOk P w H h)(e:Rd H a (.dK kvs)):kvs.length<=sizeLine/\(a==sysModules)=false/\∃ vs,KV kvs vs/\h.DictOf (bN P w) a vs:=
 show dG P w H h a (.dK kvs) from Wa ok e
theorem Wb{kvs:List (Key×V)}(ok:HOk P w H h)(e:H a=some (.dK kvs)):kvs.length<=sizeLine/\(a==sysModules)=false/\∃ vs,KV kvs vs/\h.DictOf (bN P w) a vs:=vh ok (.inl e)
theorem o8{ks:List Key}(ok:HOk P w H h)(e:H a=some (.tup (ks.map kV))):(tupleKind (bN P w)).is h ks a:=by
 obtain⟨_,its,r,⟨o,h1,h2,n,h3⟩,_⟩:=(show dG P w H h a (.tup (ks.map kV)) from ok a _ e);exact⟨o,its.toArray,n,h1,h2,h3,by simpa using Dw r⟩
theorem vm{kvs:List (List Key×V)}(ok:HOk P w H h)(e:Rd H a (.dT kvs)):kvs.length<=sizeLine/\(a==sysModules)=false /\
  ∃ xs,KT H kvs xs/\h.DictOfH (tupleKind (bN P w)) a xs:=by
 obtain⟨z,y,xs,r,o,es,ep,h1,h2,h3,h4,h5⟩:=(show dG P w H h a (.dT kvs) from Wa ok e);refine⟨z,y,xs,r,o,es,ep,h1,h2,h3,h4,λx hx=>?_,h5⟩;have all:∀ {l:List (List Key×V)}{m:List (List Key×Addr×Value)},KT H l m->∀ x∈m,(tupleKind (bN P w)).is h x.1 x.2.1:=by
  intro l m q;induction q with
  |nil=>intro x hx;exact nomatch hx
  |@cons p q ps qs hq t ih=>
   intro x hx;rcases ZaC.mp hx with e|hx
   ·subst e;exact o8 ok (by rw[<-hq.1];exact hq.2.1)
   ·exact ih x hx
 exact all r x hx
theorem Q0{kvs:List (List Key×V)}(ok:HOk P w H h)(e:H a=some (.dT kvs)):kvs.length<=sizeLine/\(a==sysModules)=false /\
  ∃ xs,KT H kvs xs/\h.DictOfH (tupleKind (bN P w)) a xs:=vm ok (.inl e)
end
def n6(H:Hp)(a:Addr)(y:V)(r:Option V):Prop:=
 (∃ kvs k,Rd H a (.dK kvs)/\y=kV k/\r=jE kvs k)\/∃ kvs k b,Rd H a (.dT kvs)/\y=.ref b/\H b=some (.tup (k.map kV))/\r=jE kvs k
def vo(H:Hp)(a:Addr)(y v:V)(H':Hp):Prop:=
 (∃ kvs k,H a=some (.dK kvs)/\y=kV k/\kvs.length<sizeLine/\H'=upd H a (.dK (putK kvs k v))) \/
 ∃ kvs k b,H a=some (.dT kvs)/\y=.ref b/\H b=some (.tup (k.map kV))/\kvs.length<sizeLine/\H'=upd H a (.dT (putK kvs k v))
theorem n6.k{H:Hp}{a:Addr}{kvs:List (Key×V)}{k:Key}(e:H a=some (.dK kvs)):n6 H a (kV k) (jE kvs k):=.inl ⟨kvs,k,.inl e,rfl,rfl⟩
theorem n6.t{H:Hp}{a b:Addr}{kvs:List (List Key×V)}{k:List Key}(e:H a=some (.dT kvs))(eb:H b=some (.tup (k.map kV))):n6 H a (.ref b) (jE kvs k):=.inr ⟨kvs,k,b,.inl e,rfl,eb,rfl⟩
theorem vo.k{H:Hp}{a:Addr}{kvs:List (Key×V)}{k:Key}{v:V}(e:H a=some (.dK kvs))(hl:kvs.length<sizeLine):vo H a (kV k) v (upd H a (.dK (putK kvs k v))):=.inl ⟨kvs,k,e,rfl,hl,rfl⟩
theorem vo.t{H:Hp}{a b:Addr}{kvs:List (List Key×V)}{k:List Key}{v:V}(e:H a=some (.dT kvs))(eb:H b=some (.tup (k.map kV)))(hl:kvs.length<sizeLine) :
  vo H a (.ref b) v (upd H a (.dT (putK kvs k v))):=.inr ⟨kvs,k,b,e,rfl,eb,hl,rfl⟩
section
variable{X:Cx}{pins:List (Addr×Obj)}{O:St}{H:Hp}{s:Shared}{a:Addr}{y v:V}{u r:Value}{o:Option V}{A:Around}{E:Value->Shared->Prop}
theorem Inv.big(I:Inv X pins O H s):sysModules<s.heap.objs.size:=by
 have h:mainGlobals<s.heap.objs.size:=(I.mod.glob.keeps I.bk).lt;exact Nat.lt_trans (by decide) h
theorem O8{Q:Value->Shared->Prop}(hu:A.units+1<cLine)(I:Inv X pins O H s)(g:n6 H a y (some v))(ry:RelV y u)(h:∀ w' s',Inv X pins O H s'->RelV v w'->Q w' s') :
  wpAny (model X.prog X.w) A (getItem (.ref a) u) Q E s:=by
 rcases g with⟨kvs,k,e,ey,l⟩|⟨kvs,k,b,e,ey,eb,l⟩
 ·subst ey;obtain⟨z,hd,vs,rel,dd⟩:=vh I.hok e;obtain⟨w',hw,rw'⟩:=yN.some_of (v:=v) (o:=valueAt vs k) (by rw[l];exact rel.val k)
  exact wpAny_getItem_of (yt ry) dd.mapOf hw (h w' _ (I.tok _) rw')
 ·subst ey;cases (show u=Value.ref b from ry);obtain⟨z,hd,xs,rel,dd⟩:=vm I.hok e;obtain⟨w',hw,rw'⟩:=yN.some_of (v:=v) (o:=(atKey xs k).map (·.2)) (by rw[l];exact rel.val k)
  obtain⟨p,hp,hp2⟩:=Zbo.mp hw;refine wpAny_getItem_heap (tupleKind_room_in1 hu) (o8 I.hok eb) dd hp ?_;rw[hp2];exact h w' _ (I.tok _) rw'
theorem ZJ{Q:Value->Shared->Prop}(hu:A.units+1<cLine)(I:Inv X pins O H s)(g:n6 H a y o)(ry:RelV y u)(h:∀ s',Inv X pins O H s'->Q (.bool o.isSome) s') :
  wpAny (model X.prog X.w) A (compareOp .In u (.ref a)) Q E s:=by
 rcases g with⟨kvs,k,e,ey,l⟩|⟨kvs,k,b,e,ey,eb,l⟩
 ·subst ey;obtain⟨z,hd,vs,rel,dd⟩:=vh I.hok e;refine wpAny_in_of (yt ry) hd dd.mapOf ?_;rw[<-(rel.val k).nZ,<-l];exact h _ (I.tok _)
 ·subst ey;cases (show u=Value.ref b from ry);obtain⟨z,hd,xs,rel,dd⟩:=vm I.hok e;refine wpAny_in_heap (tupleKind_room_in1 hu) (o8 I.hok eb) hd dd ?_;have q:=(rel.val k).nZ;rw[ZcT] at q;rw[<-q,<-l];exact h _ (I.tok _)
theorem UJ{Q:Value->Shared->Prop}(hu:A.units+1<cLine)(I:Inv X pins O H s)(g:n6 H a y o)(ry:RelV y u)(h:∀ s',Inv X pins O H s'->Q (.bool (!o.isSome)) s') :
  wpAny (model X.prog X.w) A (compareOp .NotIn u (.ref a)) Q E s:=by
 rcases g with⟨kvs,k,e,ey,l⟩|⟨kvs,k,b,e,ey,eb,l⟩
 ·subst ey;obtain⟨z,hd,vs,rel,dd⟩:=vh I.hok e;refine wpAny_notIn_of (yt ry) hd dd.mapOf ?_;rw[<-(rel.val k).nZ,<-l];exact h _ (I.tok _)
 ·subst ey;cases (show u=Value.ref b from ry);obtain⟨z,hd,xs,rel,dd⟩:=vm I.hok e;refine wpAny_notIn_heap (tupleKind_room_in1 hu) (o8 I.hok eb) hd dd ?_;have q:=(rel.val k).nZ;rw[ZcT] at q;rw[<-q,<-l];exact h _ (I.tok _)
theorem vp{h':Heap}{t':Nat}{ob:HO}(I:Inv X pins O H s)(mu:Mut (H a))(hs:Heap.SameBut a s.heap h')(he:∃ q,h'.get? a=some q)(new:dG X.prog X.w (upd H a ob) h' a ob) :
  Inv X pins O (upd H a ob) { s with heap:=h',toks:=t' }:=
 I.write (x:=a) (e:=a) mu (.inl rfl) (λb q hb z=>(hs.2 b hb).trans z) he new
theorem Q3{P:Program}{w:World}{H':Hp}{h':Heap}{kvs:List (Key×V)}{vs:List (Key×Value)}(z:kvs.length<=sizeLine)(hd:(a==sysModules)=false)(rel:KV kvs vs)(dd:h'.DictOf (bN P w) a vs) :
  dG P w H' h' a (.dK kvs):=⟨z,hd,vs,rel,dd⟩
theorem O9{H':Hp}{Q:Unit->Shared->Prop}(hu:A.units+1<cLine)(I:Inv X pins O H s)(g:vo H a y v H')(ry:RelV y u)(rv:RelV v r)(h:∀ s',Inv X pins O H' s'->Q () s') :
  wpAny (model X.prog X.w) A (setItem (.ref a) u r) Q E s:=by
 rcases g with⟨kvs,k,e,ey,l,eH⟩|⟨kvs,k,b,e,ey,eb,l,eH⟩
 ·subst ey eH;obtain⟨z,hd,vs,rel,dd⟩:=Wb I.hok e;have hz:vs.length<=sizeLine:=by rw[<-rel.length];exact z
  have hl:(putK kvs k v).length<=sizeLine:=by have:=jT kvs k v;lia
  refine wpAny_setItem_pairs (hsz:=hz) (yt ry) dd λh' dd' hs=>h _ ?_;have he:∃ q,h'.get? a=some q:=let⟨q,_,_,hq,_⟩:=dd';⟨q,hq⟩;exact vp I (by rw[e];exact True.intro) hs he (Q3 hl hd (rel.put k rv) dd')
 ·subst ey eH;cases (show u=Value.ref b from ry);obtain⟨z,hd,xs,rel,dd⟩:=Q0 I.hok e;have hz:xs.length<=sizeLine:=by rw[<-ZcD rel];exact z
  have hl:(putK kvs k v).length<=sizeLine:=by have:=jT kvs k v;lia
  refine wpAny_setItem_heap (hsz:=hz) (tupleKind_room_in1 hu) (o8 I.hok eb) dd λh' dd' hs=>h _ ?_;obtain⟨q,es,ep,hq,h2,h3,h4,_,h5⟩:=dd';refine vp I (by rw[e];exact True.intro) hs ⟨q,hq⟩ ⟨hl,hd,_,(rel.put k eb rv).keeps λc ys ec=>?_,q,es,ep,hq,h2,h3,h4,h5⟩
  rw[aJ (Hn ec e (λz=>nomatch z))];exact ec
end
def Xh(i:Expr):Prop:=∀ ov iv,subscripted i false ov iv=operate [ov,iv] (getItem ov iv)
theorem UL{prog:Program}{w:World}{A:Around}{E:Value->Shared->Prop}{s:Shared}{env:Env}{value slice:Expr}{pos:Pos}{T id:String}{Q:Value->Shared->Prop}
  (hl:typeLookup (.type T) "__getitem__"=pure (some (.builtin id)))(hs:Xh slice)
  (h:wpAny (model prog w) A (eval value env) (λo s₁=>wpAny (model prog w) A (eval slice env) (λi s₂=>s₂.TypeIs o T/\wpAny (model prog w) A (getItem o i) Q E s₂) E s₁) E s) :
  wpAny (model prog w) A (eval (.Subscript value slice pos) env) Q E s:=by
 refine Subscript_ (Zbk h (λo s₁ h₁=>Zbk h₁ (λi s₂ h₂=>?_) λ_ _ x=>x) λ_ _ x=>x);obtain⟨hT,h₂⟩:=h₂;unfold subscriptTail;refine Zaa ?_;rw[getitemInPython_of_ne hT.not_modules];refine Zaa (wpAny_specialOf hT hl ?_);have fin:wpAny (model prog w) A (subscripted slice false o i) (λr s₃=>wpAny (model prog w) A (letTemporaryGo value o r>>=λ_=>pure r) Q E s₃) E s₂:=by
  rw[hs o i];exact wpAny_operating (Zbk h₂ (λr s₃ h₃=>Zaa (wpAny_letTemporaryGo (Zah h₃))) λ_ _ x=>x)
 first
  |exact Zah (Zaa fin)
  |exact Zaa (Zah (Zaa fin))
  |exact Zaa fin
theorem HD{X:Cx}{pins:List (Addr×Obj)}{O:St}{H:Hp}{s:Shared}{a:Addr}{y:V}{o:Option V}(I:Inv X pins O H s)(g:n6 H a y o):s.TypeIs (.ref a) "dict":=by
 rcases g with⟨kvs,k,e,_,_⟩|⟨kvs,k,b,e,_,_,_⟩
 ·obtain⟨_,_,vs,_,dd⟩:=vh I.hok e;exact dd.typeIs
 ·obtain⟨_,_,xs,_,dd⟩:=vm I.hok e;exact dd.typeIs
def Q4(td ty:TE):TE:=λO H Q=>td O H λx H1=>ty O H1 λy H2=>∃ a v,x=.ref a/\n6 H2 a y (some v)/\Q v H2
def Q5(td ty tv:TE):TS:=λD O H=>tv O H λv H1=>td O H1 λx H2=>ty O H2 λy H3=>∃ a H4,x=.ref a/\vo H3 a y v H4/\D.nx O H4
section
variable{X:Cx}{o i value:Expr}{pos pos':Pos}{td ty tv:TE}
theorem UT(hu:X.A.units+1<cLine)(ho:PE X o td)(hi:PE X i ty)(hs:Xh i):PE X (.Subscript o i pos) (Q4 td ty):=by
 intro pins s O H Q I h;refine UL PySem.F.slot_dict_getitem.lookup hs (thn (ho pins s O H _ I h) λu s1 ⟨x,H1,I1,rx,q1⟩=>thn (hi pins s1 O H1 _ I1 q1) ?_);rintro iv s2 ⟨y,H2,I2,ry,a,v,ex,g,q2⟩;subst ex;obtain rfl:u=Value.ref a:=rx;exact⟨HD I2 g,O8 hu I2 g ry λw' s3 I3 rw'=>⟨v,H2,I3,rw',q2⟩⟩
theorem iu(hu:X.A.units+1<cLine)(ho:PE X o td)(hi:PE X i ty)(hv:PE X value tv)(hs:swapsWith value (some (.Subscript o i pos')) pos.line X.env=pure false) :
  PS X (.Assign [.Subscript o i pos'] value pos) (Q5 td ty tv):=by
 intro pins s O H D I h;refine wpAny_Assign_Subscript (thn (hv pins s O H _ I h) λr s1 ⟨v,H1,I1,rv,q1⟩=>thn (ho pins s1 O H1 _ I1 q1) λu s2 ⟨x,H2,I2,rx,q2⟩=>thn (hi pins s2 O H2 _ I2 q2) ?_) hs;rintro iv s3 ⟨y,H3,I3,ry,a,H4,ex,g,q3⟩;subst ex;obtain rfl:u=Value.ref a:=rx;exact O9 hu I3 g ry rv λs4 I4=>⟨O,H4,I4,q3⟩
end
theorem HF{P:Program}{w:World}{H:Hp}(h:Heap)(hb:sysModules<h.objs.size):dG P w H (h.push { cls:=.type "dict",data:=.dict #[] }) h.objs.size (.dK []):=
 ⟨Za4 _,beq_eq_false_iff_ne.mpr (Zbl (ZaE hb)),[],.nil,Heap.DictOf.new h⟩
theorem HJ{P:Program}{w:World}{H:Hp}(h:Heap)(hb:sysModules<h.objs.size):dG P w H (h.push { cls:=.type "dict",data:=.dict #[] }) h.objs.size (.dT []):=
 ⟨Za4 _,beq_eq_false_iff_ne.mpr (Zbl (ZaE hb)),[],.nil,_,#[],0,Zar _ rfl,⟨rfl,rfl,rfl⟩,rfl,rfl,ZcM⟩
def Q6:TE:=λ_ H Q=>∀ p,H p=none->Q (.ref p) (upd H p (.dK []))
def Q7:TE:=λ_ H Q=>∀ p,H p=none->Q (.ref p) (upd H p (.dT []))
section
variable{X:Cx}{pos:Pos}
theorem lX:PE X (.Dict [] [] pos) Q6:=λpins s O H Q I h=>
 wpAny_Dict_empty ⟨.ref s.heap.objs.size,_,I.laid (a:=s.heap.objs.size) (o:=.dK []) (t':=s.toks) (λ_ _ q=>Zaj _ q) (Zan _) (HF s.heap I.big),rfl,h _ (I.hok.fresh (Zan _))⟩
theorem qp:PE X (.Dict [] [] pos) Q7:=λpins s O H Q I h=>
 wpAny_Dict_empty ⟨.ref s.heap.objs.size,_,I.laid (a:=s.heap.objs.size) (o:=.dT []) (t':=s.toks) (λ_ _ q=>Zaj _ q) (Zan _) (HJ s.heap I.big),rfl,h _ (I.hok.fresh (Zan _))⟩
end
def Q8:List (TE×TE)->St->Hp->(List (V×V)->Hp->Prop)->Prop
 |[],_,H,Q=>Q [] H
 |(tk,tv)::r,O,H,Q=>tk O H λx H1=>tv O H1 λy H2=>Q8 r O H2 λps H3=>Q ((x,y)::ps) H3
noncomputable abbrev VV:List (V×V)->List (Value×Value)->Prop:=Paired λp q=>RelV p.1 q.1/\RelV p.2 q.2
def PPs(X:Cx)(pos:Pos)(keys:List (Option Expr))(values:List Expr)(trs:List (TE×TE)):Prop:=
 ∀ (pins:List (Addr×Obj)) (s:Shared) (O:St) (H:Hp) (Q:List (V×V)->Hp->Prop),Inv X pins O H s->Q8 trs O H Q ->
  wpAny (model X.prog X.w) X.A (evalPairs (pairTrees keys values X.env pos)) (λvs s'=>∃ ps H',Inv X pins O H' s'/\VV ps vs/\Q ps H') X.xe s
structure M1(X:Cx)(o:Expr)(m:Str)(apos:Pos)(e:Expr)(cpos:Pos):Prop where
 base:attributeBase o m X.env (eval o X.env)=eval o X.env
 few:((backTo cpos (starEach [e] X.env)).all (λx=>!x.1)&&(backToKw cpos (keywordEach [] X.env)).all (λx=>x.1.isSome)
  && decide (([e]:List Expr).length+([]:List Keyword).length+(if([]:List Keyword).isEmpty then 0 else 1)<30))=true
 line:(apos.endLine==cpos.line)=true
 trees:backTo cpos (starEach [e] X.env)=[(false,eval e X.env)]
structure M2(X:Cx)(o:Expr)(m:Str)(apos:Pos)(e f:Expr)(cpos:Pos):Prop where
 base:attributeBase o m X.env (eval o X.env)=eval o X.env
 few:((backTo cpos (starEach [e,f] X.env)).all (λx=>!x.1)&&(backToKw cpos (keywordEach [] X.env)).all (λx=>x.1.isSome)
  && decide (([e,f]:List Expr).length+([]:List Keyword).length+(if([]:List Keyword).isEmpty then 0 else 1)<30))=true
 line:(apos.endLine==cpos.line)=true
 trees:backTo cpos (starEach [e,f] X.env)=[(false,eval e X.env),(false,eval f X.env)]
def IsD(H:Hp)(a:Addr):Prop:=(∃ kvs,Rd H a (.dK kvs))\/∃ kvs,Rd H a (.dT kvs)
theorem zN{X:Cx}{pins:List (Addr×Obj)}{O:St}{H:Hp}{s:Shared}{a:Addr}(I:Inv X pins O H s)(d:IsD H a) :
  s.TypeIs (.ref a) "dict"/\(∀ b,Value.ref a=.ref b->∃ ob,s.heap.get? b=some ob/\ob.dict=none)/\(a==sysModules)=false:=by
 rcases d with⟨kvs,e⟩|⟨kvs,e⟩
 ·obtain⟨_,hd,vs,_,dd⟩:=vh I.hok e;refine⟨dd.typeIs,λb q=>?_,hd⟩;cases q;obtain⟨ob,_,_,h1,h2,_⟩:=dd;exact⟨ob,h1,h2.2.1⟩
 ·obtain⟨_,hd,xs,_,dd⟩:=vm I.hok e;refine⟨dd.typeIs,λb q=>?_,hd⟩;cases q;obtain⟨ob,_,_,h1,h2,_⟩:=dd;exact⟨ob,h1,h2.2.1⟩
section
variable{X:Cx}{pins:List (Addr×Obj)}{O:St}{H:Hp}{s:Shared}{a:Addr}{y d:V}{u r:Value}{o:Option V}{A:Around}{E:Value->Shared->Prop}
theorem Xi{Q:Value->Shared->Prop}(hu:A.units+1<cLine)(I:Inv X pins O H s)(g:n6 H a y o)(ry:RelV y u)(h:∀ w' s',Inv X pins O H s'->RelV (o.getD .non) w'->Q w' s') :
  wpAny (model X.prog X.w) A (call (.builtin "dict.get") [.ref a,u]) Q E s:=by
 rcases g with⟨kvs,k,e,ey,l⟩|⟨kvs,k,b,e,ey,eb,l⟩
 ·subst ey;obtain⟨z,hd,vs,rel,dd⟩:=vh I.hok e;refine call_meetsIn Zbx dd.typeIs Zb0 (PySem.F.args_dict_get_2 _ _) (meets_dict_get (bN X.prog X.w) a (yt ry) hd) ⟨_,dd.mapOf,h _ _ (I.tok _) ?_⟩;rw[l];exact(rel.val k).getD rfl
 ·subst ey;cases (show u=Value.ref b from ry);obtain⟨z,hd,xs,rel,dd⟩:=vm I.hok e;refine call_meetsIn Zbx dd.typeIs Zb0 (PySem.F.args_dict_get_2 _ _) (meetsH_dict_get (tupleKind (bN X.prog X.w)) a b hd) ⟨tupleKind_room_in1 hu,k,xs,o8 I.hok eb,dd,h _ _ (I.tok _) ?_⟩;rw[l];exact(rel.val k).getD rfl
theorem Xj{Q:Value->Shared->Prop}(hu:A.units+1<cLine)(I:Inv X pins O H s)(g:n6 H a y o)(ry:RelV y u)(rd:RelV d r)(h:∀ w' s',Inv X pins O H s'->RelV (o.getD d) w'->Q w' s') :
  wpAny (model X.prog X.w) A (call (.builtin "dict.get") [.ref a,u,r]) Q E s:=by
 rcases g with⟨kvs,k,e,ey,l⟩|⟨kvs,k,b,e,ey,eb,l⟩
 ·subst ey;obtain⟨z,hd,vs,rel,dd⟩:=vh I.hok e;refine call_meetsIn Zbx dd.typeIs Zb0 (PySem.F.args_dict_get_3 _ _ _) (meets_dict_get_default (bN X.prog X.w) a (yt ry) hd r) ⟨_,dd.mapOf,h _ _ (I.tok _) ?_⟩;rw[l];exact(rel.val k).getD rd
 ·subst ey;cases (show u=Value.ref b from ry);obtain⟨z,hd,xs,rel,dd⟩:=vm I.hok e;refine call_meetsIn Zbx dd.typeIs Zb0 (PySem.F.args_dict_get_3 _ _ _) (meetsH_dict_get_default (tupleKind (bN X.prog X.w)) a b hd r) ⟨tupleKind_room_in1 hu,k,xs,o8 I.hok eb,dd,h _ _ (I.tok _) ?_⟩;rw[l];exact(rel.val k).getD rd
end
def KZ(td ty:TE):TE:=λO H Q=>td O H λx H1=>∃ a,x=.ref a/\IsD H1 a/\ty O H1 λy H2=>∃ o,n6 H2 a y o/\Q (o.getD .non) H2
def K1(td ty tx:TE):TE:=λO H Q=>td O H λx H1=>∃ a,x=.ref a/\IsD H1 a/\ty O H1 λy H2=>tx O H2 λz H3=>∃ o,n6 H3 a y o/\Q (o.getD z) H3
section
variable{X:Cx}{o e f:Expr}{apos cpos:Pos}{td ty tx:TE}
theorem Q9(hu:X.A.units+1<cLine)(ho:PE X o td)(he:PE X e ty)(m:M1 X o "get" apos e cpos):PE X (.Call (.Attribute o "get" apos) [e] [] cpos) (KZ td ty):=by
 intro pins s O H Q I h;refine wpAny_Call_method m.base m.few m.line ZbD Zbx PySem.F.type_dict_get (thn (ho pins s O H _ I h) ?_);rintro u s1 ⟨x,H1,I1,rx,a,ex,d,q1⟩;subst ex;obtain rfl:u=Value.ref a:=rx;obtain⟨t1,t2,_⟩:=zN I1 d;refine⟨t1,t2,?_⟩;rw[m.trees];refine ZbZ rfl (Zb9 (ZbM (thn (he pins s1 O H1 _ I1 q1) λiv s2 ⟨y,H2,I2,ry,ov,g,q2⟩=>Zct ?_)));exact Xi hu I2 g ry λw' s3 I3 rw'=>⟨_,H2,I3,rw',q2⟩
theorem Ra(hu:X.A.units+1<cLine)(ho:PE X o td)(he:PE X e ty)(hf:PE X f tx)(m:M2 X o "get" apos e f cpos):PE X (.Call (.Attribute o "get" apos) [e,f] [] cpos) (K1 td ty tx):=by
 intro pins s O H Q I h;refine wpAny_Call_method m.base m.few m.line ZbD Zbx PySem.F.type_dict_get (thn (ho pins s O H _ I h) ?_);rintro u s1 ⟨x,H1,I1,rx,a,ex,d,q1⟩;subst ex;obtain rfl:u=Value.ref a:=rx;obtain⟨t1,t2,_⟩:=zN I1 d;refine⟨t1,t2,?_⟩;rw[m.trees];refine ZbZ rfl (Zb9 (ZbM (thn (he pins s1 O H1 _ I1 q1) λiv s2 ⟨y,H2,I2,ry,q2⟩=>
  ZbM (thn (hf pins s2 O H2 _ I2 q2) λfv s3 ⟨z,H3,I3,rz,ov,g,q3⟩=>Zct ?_))))
 exact Xj hu I3 g ry rz λw' s4 I4 rw'=>⟨_,H3,I4,rw',q3⟩
end
end L2
namespace L2.MP
open PySem PySem.Spec PyProof.Rows
inductive PV where
 |non|bl (b:Bool)|int (i:Int)|str (x:Str)|ty (n:String)
 |tup (l:List PV)|lst (l:List PV)|dk (l:List (Key×PV))|dt (l:List (List Key×PV))
 |exc (c:Str) (fs:List (Str×PV))
noncomputable instance:Inhabited PV:=⟨.non⟩
def PV.flat:PV->Bool
 |.non|.bl _|.int _|.str _|.ty _=>true
 |_=>false
def uh:Nat->PV->Bool
 |0,p=>p.flat
 |n+1,.tup l=>l.all (uh n)
 |_+1,p=>p.flat
def PV.still(p:PV):Bool:=uh 5 p
inductive Res(α:Type) where
 |ok (a:α)|ex (z:PV)
def bnd{α β:Type}(x:Option (Res α))(k:α->Option (Res β)):Option (Res β):=match x with
 |some (.ok a)=>k a
 |some (.ex z)=>some (.ex z)
 |none=>none
def XO(e C:Addr)(d:Option Addr):HO:=.ext λh=>∃ vs:Array Value,h.get? e=some { cls:=.ref C,dict:=d,data:=.fields vs }
structure XNm(K:Frag)(C:Addr)(c:Str):Prop where
 ns:nsIn K mainGlobals c=some (some (.ref C))
 cl:∃ cd,PySem.W.clsIn K C=some cd/\cd.name=c
inductive Rep(K:Frag)(F:Hp):V->PV->Prop
 |non:Rep K F .non .non
 |bl {b:Bool}:Rep K F (.bl b) (.bl b)
 |int {i:Int}:Rep K F (.int i) (.int i)
 |str {x:Str}:Rep K F (.str x) (.str x)
 |ty {n:String}:Rep K F (.ty n) (.ty n)
 |tup {a:Addr}{xs:List V}{l:List PV} (h:F a=some (.tup xs)) (hl:xs.length=l.length) (hr:∀ (j:Nat) x p,xs[j]?=some x->l[j]?=some p->Rep K F x p):Rep K F (.ref a) (.tup l)
 |lst {a:Addr}{xs:List V}{l:List PV} (h:SqL K F a xs) (hl:xs.length=l.length) (hr:∀ (j:Nat) x p,xs[j]?=some x->l[j]?=some p->Rep K F x p):Rep K F (.ref a) (.lst l)
 |dk {a:Addr}{xs:List (Key×V)}{l:List (Key×PV)} (h:Rd F a (.dK xs)) (hl:xs.map (·.1)=l.map (·.1)) (hr:∀ (j:Nat) x p,xs[j]?=some x->l[j]?=some p->Rep K F x.2 p.2):Rep K F (.ref a) (.dk l)
 |dt {a:Addr}{xs:List (List Key×V)}{l:List (List Key×PV)} (h:Rd F a (.dT xs)) (hl:xs.map (·.1)=l.map (·.1)) (hr:∀ (j:Nat) x p,xs[j]?=some x->l[j]?=some p->Rep K F x.2 p.2):Rep K F (.ref a) (.dt l)
 |exc {a C dx:Addr}{c:Str}{xs:List (Str×V)}{l:List (Str×PV)} (nm:XNm K C c) (h:F a=some (XO a C (some dx))) (hd:F dx=some (.xd xs)) (hl:xs.map (·.1)=l.map (·.1)) (hr:∀ (j:Nat) x p,xs[j]?=some x->l[j]?=some p->Rep K F x.2 p.2):Rep K F (.ref a) (.exc c l)
 |exc0 {a C:Addr}{c:Str} (nm:XNm K C c) (h:F a=some (XO a C none)):Rep K F (.ref a) (.exc c [])
def bG(K:Frag)(F:Hp)(xs:List V)(l:List PV):Prop:=xs.length=l.length/\∀ (j:Nat) x p,xs[j]?=some x->l[j]?=some p->Rep K F x p
section
variable{K:Frag}{F F':Hp}{v:V}{p:PV}{xs ys:List V}{l m:List PV}
theorem _root_.L2.Rd.same{F F':Hp}{a:Addr}{u:HO}(h:Rd F a u)(s:aU F F'):Rd F' a u:=h.imp (s _ _) λ⟨o,e⟩=>⟨o,s _ _ e⟩
theorem Rep.up(h:Rep K F v p)(s:aU F F'):Rep K F' v p:=by
 induction h with
 |non=>exact .non
 |bl=>exact .bl
 |int=>exact .int
 |str=>exact .str
 |ty=>exact .ty
 |tup h hl _ ih=>exact .tup (s _ _ h) hl ih
 |lst h hl _ ih=>exact .lst (s.seq h) hl ih
 |dk h hl _ ih=>exact .dk (h.same s) hl ih
 |dt h hl _ ih=>exact .dt (h.same s) hl ih
 |exc nm h hd hl _ ih=>exact .exc nm (s _ _ h) (s _ _ hd) hl ih
 |exc0 nm h=>exact .exc0 nm (s _ _ h)
theorem bG.up(h:bG K F xs l)(s:aU F F'):bG K F' xs l:=⟨h.1,λj x p a b=>(h.2 j x p a b).up s⟩
theorem Rep.free(h:Rep K F v p)(hf:p.flat=true):Rep K F' v p:=by
 cases h with
 |non=>exact .non
 |bl=>exact .bl
 |int=>exact .int
 |str=>exact .str
 |ty=>exact .ty
 |tup=>cases hf
 |lst=>cases hf
 |dk=>cases hf
 |dt=>cases hf
 |exc=>cases hf
 |exc0=>cases hf
theorem bG.nil:bG K F [] []:=⟨rfl,λj x p h=>by simp at h⟩
theorem bG.cons(h:Rep K F v p)(t:bG K F xs l):bG K F (v::xs) (p::l):=by
 refine⟨by simp[t.1],λj x q a b=>?_⟩
 cases j with
 |zero=>simp at a b;subst a b;exact h
 |succ j=>exact t.2 j x q (by simpa using a) (by simpa using b)
theorem bG.append(h:bG K F xs l)(t:bG K F ys m):bG K F (xs++ys) (l++m):=by
 refine⟨by rw[Zas,Zas,h.1,t.1],λj x p a b=>?_⟩
 by_cases hj:j<xs.length
 ·rw[Zag hj] at a;rw[Zag (by rw[<-h.1];exact hj)] at b
  exact h.2 j x p a b
 ·rw[Zap (by lia)] at a
  rw[Zap (by rw[<-h.1];lia),<-h.1] at b
  exact t.2 _ x p a b
theorem bG.snoc(h:bG K F xs l)(t:Rep K F v p):bG K F (xs++[v]) (l++[p]):=h.append (bG.nil.cons t)
theorem bG.get(h:bG K F xs l){j:Nat}(e:l[j]?=some p):∃ x,xs[j]?=some x/\Rep K F x p:=by
 have hj:j<xs.length:=by rw[h.1];exact(Zad.mp e).1
 exact⟨xs[j],by simp[hj],h.2 j _ p (by simp[hj]) e⟩
theorem bG.got(h:bG K F xs l){j:Nat}(e:xs[j]?=some v):∃ p,l[j]?=some p/\Rep K F v p:=by
 have hj:j<l.length:=by rw[<-h.1];exact(Zad.mp e).1
 exact⟨l[j],by simp[hj],h.2 j v _ e (by simp[hj])⟩
theorem bG.take(h:bG K F xs l)(n:Nat):bG K F (xs.take n) (l.take n):=by
 refine⟨by simp[h.1],λj x p a b=>?_⟩
 rw[List.getElem?_take] at a b;split at a
 ·rename_i hj;rw[Zam hj] at b;exact h.2 j x p a b
 ·cases a
theorem bG.drop(h:bG K F xs l)(n:Nat):bG K F (xs.drop n) (l.drop n):=by
 refine⟨by simp[h.1],λj x p a b=>?_⟩
 rw[List.getElem?_drop] at a b;exact h.2 _ x p a b
theorem bG.set(h:bG K F xs l)(t:Rep K F v p)(i:Nat):bG K F (xs.set i v) (l.set i p):=by
 refine⟨by simp[h.1],λj x q a b=>?_⟩
 rw[ZbF] at a b;by_cases hj:i=j
 ·subst hj;rw[Zam rfl] at a b;split at a
  ·rename_i hl;rw[Zam (by rw[<-h.1];exact hl)] at b
   cases a;cases b;exact t
  ·cases a
 ·rw[Zal hj] at a b;exact h.2 j x q a b
theorem bG.dw(h:bG K F xs (p::l)):∃ v ys,xs=v::ys/\Rep K F v p/\bG K F ys l:=by
 obtain⟨hl,hr⟩:=h
 match xs,hl,hr with
 |[],hl,_=>simp at hl
 |v::ys,hl,hr=>exact⟨v,ys,rfl,hr 0 v p rfl rfl,by simpa using hl,λj x q a b=>hr (j+1) x q (by simpa using a) (by simpa using b)⟩
theorem bG.jd(h:bG K F xs []):xs=[]:=by
 have:=h.1;simpa using this
theorem bG.vq:∀ (ns:List Int),bG K F (ns.map V.int) (ns.map PV.int)
 |[]=>.nil
 |n::ns=>(bG.vq ns).cons .int
theorem Rep.bC{i:Int}(h:Rep K F v (.int i)):v=.int i:=by cases h;rfl
theorem Rep.je{b:Bool}(h:Rep K F v (.bl b)):v=.bl b:=by cases h;rfl
theorem Rep.cB{z:Str}(h:Rep K F v (.str z)):v=.str z:=by cases h;rfl
theorem Rep.fL(h:Rep K F v .non):v=.non:=by cases h;rfl
theorem Rep.Xk{n:String}(h:Rep K F v (.ty n)):v=.ty n:=by cases h;rfl
theorem Rep.cV(h:Rep K F v (.tup l)):∃ a xs,v=.ref a/\SqT K F a xs/\bG K F xs l:=by cases h with|tup h hl hr=>exact⟨_,_,rfl,SqT.of h,hl,hr⟩
theorem Rep.vy(h:Rep K F v (.tup l)):∃ a xs,v=.ref a/\F a=some (.tup xs)/\bG K F xs l:=by cases h with|tup h hl hr=>exact⟨_,_,rfl,h,hl,hr⟩
theorem Rep.cC(h:Rep K F v (.lst l)):∃ a xs,v=.ref a/\SqL K F a xs/\bG K F xs l:=by cases h with|lst h hl hr=>exact⟨_,_,rfl,h,hl,hr⟩
end
structure Cf where
 io:Addr->Prop
 nw:Prop
 H0:Hp
 F0:Hp
 E:XK
inductive Sl where
 |sh (p:PV)|ow (p:PV)|dp (p:PV)
noncomputable abbrev Rho:=List (Option Sl)
def Own(K:Frag)(F H:Hp)(a:Addr):PV->Prop
 |.lst l=>∃ xs,H a=some (.lst xs)/\bG K F xs l
 |.dk l=>∃ xs,H a=some (.dK xs)/\xs.map (·.1)=l.map (·.1)/\∀ (j:Nat) x p,xs[j]?=some x->l[j]?=some p->Rep K F x.2 p.2
 |.dt l=>∃ xs,H a=some (.dT xs)/\xs.map (·.1)=l.map (·.1)/\∀ (j:Nat) x p,xs[j]?=some x->l[j]?=some p->Rep K F x.2 p.2
 |_=>False
inductive Dp(K:Frag)(F H:Hp):(Addr->Prop)->V->PV->Prop
 |fr {P:Addr->Prop}{v:V}{p:PV} (h:Rep K F v p) (st:p.still=true):Dp K F H P v p
 |lst {P:Addr->Prop}{S:Nat->Addr->Prop}{a:Addr}{xs:List V}{l:List PV} (h:H a=some (.lst xs)) (hp:P a) (hs:∀ j b,S j b->P b/\b≠a) (dj:∀ i j b,S i b->S j b->i=j) (hl:xs.length=l.length)
   (hr:∀ (j:Nat) x p,xs[j]?=some x->l[j]?=some p->Dp K F H (S j) x p):Dp K F H P (.ref a) (.lst l)
 |tup {P:Addr->Prop}{S:Nat->Addr->Prop}{a:Addr}{xs:List V}{l:List PV} (h:H a=some (.tup xs)) (hs:∀ j b,S j b->P b) (dj:∀ i j b,S i b->S j b->i=j) (hl:xs.length=l.length)
   (hr:∀ (j:Nat) x p,xs[j]?=some x->l[j]?=some p->Dp K F H (S j) x p):Dp K F H P (.ref a) (.tup l)
 |dk {P:Addr->Prop}{S:Nat->Addr->Prop}{a:Addr}{xs:List (Key×V)}{l:List (Key×PV)} (h:H a=some (.dK xs)) (hp:P a) (hs:∀ j b,S j b->P b/\b≠a) (dj:∀ i j b,S i b->S j b->i=j) (hl:xs.map (·.1)=l.map (·.1))
   (hr:∀ (j:Nat) x p,xs[j]?=some x->l[j]?=some p->Dp K F H (S j) x.2 p.2):Dp K F H P (.ref a) (.dk l)
 |dt {P:Addr->Prop}{S:Nat->Addr->Prop}{a:Addr}{xs:List (List Key×V)}{l:List (List Key×PV)} (h:H a=some (.dT xs)) (hp:P a) (hs:∀ j b,S j b->P b/\b≠a) (dj:∀ i j b,S i b->S j b->i=j) (hl:xs.map (·.1)=l.map (·.1))
   (hr:∀ (j:Nat) x p,xs[j]?=some x->l[j]?=some p->Dp K F H (S j) x.2 p.2):Dp K F H P (.ref a) (.dt l)
section
variable{K:Frag}{F F' H H':Hp}{v:V}{p:PV}{P P':Addr->Prop}
theorem Dp.mono(h:Dp K F H P v p)(m:∀ b,P b->P' b):Dp K F H P' v p:=by
 cases h with
 |fr h st=>exact .fr h st
 |lst h hp hs dj hl hr=>exact .lst h (m _ hp) (λj b q=>⟨m _ (hs j b q).1,(hs j b q).2⟩) dj hl hr
 |tup h hs dj hl hr=>exact .tup h (λj b q=>m _ (hs j b q)) dj hl hr
 |dk h hp hs dj hl hr=>exact .dk h (m _ hp) (λj b q=>⟨m _ (hs j b q).1,(hs j b q).2⟩) dj hl hr
 |dt h hp hs dj hl hr=>exact .dt h (m _ hp) (λj b q=>⟨m _ (hs j b q).1,(hs j b q).2⟩) dj hl hr
theorem Dp.up(h:Dp K F H P v p)(sf:aU F F')(sh:∀ b o,P b->H b=some o->H' b=some o)(ht:∀ b ys,H b=some (.tup ys)->H' b=some (.tup ys)):Dp K F' H' P v p:=by
 induction h with
 |fr h st=>exact .fr (h.up sf) st
 |lst h hp hs dj hl _ ih=>exact .lst (sh _ _ hp h) hp hs dj hl λj x p e1 e2=>ih j x p e1 e2 λb o q=>sh b o (hs j b q).1
 |tup h hs dj hl _ ih=>exact .tup (ht _ _ h) hs dj hl λj x p e1 e2=>ih j x p e1 e2 λb o q=>sh b o (hs j b q)
 |dk h hp hs dj hl _ ih=>exact .dk (sh _ _ hp h) hp hs dj hl λj x p e1 e2=>ih j x p e1 e2 λb o q=>sh b o (hs j b q).1
 |dt h hp hs dj hl _ ih=>exact .dt (sh _ _ hp h) hp hs dj hl λj x p e1 e2=>ih j x p e1 e2 λb o q=>sh b o (hs j b q).1
theorem Dp.seen(h:Dp K F H P v p)(sf:aU F F')(sh:∀ b o,P b->H b=some o->F' b=some o)(ht:∀ b ys,H b=some (.tup ys)->F' b=some (.tup ys)):Rep K F' v p:=by
 induction h with
 |fr h st=>exact h.up sf
 |lst h hp hs dj hl _ ih=>exact .lst (SqL.of (sh _ _ hp h)) hl λj x p e1 e2=>ih j x p e1 e2 λb o q=>sh b o (hs j b q).1
 |tup h hs dj hl _ ih=>exact .tup (ht _ _ h) hl λj x p e1 e2=>ih j x p e1 e2 λb o q=>sh b o (hs j b q)
 |dk h hp hs dj hl _ ih=>exact .dk (.inl (sh _ _ hp h)) hl λj x p e1 e2=>ih j x p e1 e2 λb o q=>sh b o (hs j b q).1
 |dt h hp hs dj hl _ ih=>exact .dt (.inl (sh _ _ hp h)) hl λj x p e1 e2=>ih j x p e1 e2 λb o q=>sh b o (hs j b q).1
theorem Dp.lent(h:Dp K F H P v p)(s:aU F H):Rep K H v p:=h.seen s (λ_ _ _ e=>e) λ_ _ e=>e
end
structure RD(K:Frag)(C:Cf)(F H:Hp)(O:St)(Z:Rho)(P:Nat->Addr->Prop):Prop where
 own:∀ i b,P i b->F b=none/\(∃ o,H b=some o/\∀ ys,o≠.tup ys)/\C.nw/\C.H0 b=none
 dis:∀ i j b,P i b->P j b->i=j
 ow:∀ (i j:Nat) q b,P i b->Z[j]?=some (some (.ow q))->O[j]?≠some (some (.ref b))
 dp:∀ (i:Nat) p,Z[i]?=some (some (.dp p))->∃ v,O[i]?=some (some v)/\Dp K F H (P i) v p
theorem RD.no{K:Frag}{C:Cf}{F H:Hp}{O:St}{Z:Rho}(h:∀ (i:Nat) p,Z[i]?≠some (some (.dp p))):RD K C F H O Z (λ_ _=>False):=
 ⟨λ_ _ q=>q.elim,λ_ _ _ q=>q.elim,λ_ _ _ _ q=>q.elim,λi p e=>absurd e (h i p)⟩
def Frz(H:Hp)(b:Addr)(o:HO):Prop:=H b=none\/∃ ys,o=.tup ys
structure RB(C:Cf)(F H:Hp):Prop where
 sub:aU F H
 keep:∀ b o,C.H0 b=some o->¬C.io b->H b=some o
 new:∀ b o,F b=some o->C.F0 b=some o\/Frz C.H0 b o
 ios:∀ b,C.io b->H b≠none/\C.H0 b≠none
structure RE(K:Frag)(C:Cf)(F H:Hp)(O:St)(Z:Rho):Prop where
 rb:RB C F H
 len:O.length=Z.length
 sh:∀ (i:Nat) p,Z[i]?=some (some (.sh p))->∃ v,O[i]?=some (some v)/\Rep K F v p
 ow:∀ (i:Nat) p,Z[i]?=some (some (.ow p))->∃ a,O[i]?=some (some (.ref a))/\Own K F H a p/\F a=none/\(C.io a\/(C.nw/\C.H0 a=none))
 dis:∀ (i j:Nat) p q a,Z[i]?=some (some (.ow p))->Z[j]?=some (some (.ow q))->O[i]?=some (some (.ref a))->O[j]?=some (some (.ref a))->i=j
 dd:∃ P,RD K C F H O Z P
structure Up(F H F' H':Hp):Prop where
 ff:aU F F'
 hh:aU H H'
 fr:∀ b o,F' b=some o->F b=some o\/Frz H b o
 fh:aU F' H'
section
variable{K:Frag}{C:Cf}{F F1 F2 F' H H1 H2 H':Hp}{O:St}{Z:Rho}{a:Addr}{p:PV}{v:V}
theorem Up.refl(s:aU F H):Up F H F H:=⟨aU.refl _,aU.refl _,λ_ _ h=>.inl h,s⟩
theorem Up.trans(a:Up F H F1 H1)(b:Up F1 H1 F2 H2):Up F H F2 H2:=
 ⟨a.ff.trans b.ff,a.hh.trans b.hh,λc o h=>(b.fr c o h).elim (a.fr c o) λn=>.inr (n.imp (λn=>a.hh.free n) id),b.fh⟩
theorem Own.ne(h:Own K F H a p):∃ o,H a=some o:=by
 cases p with
 |lst l=>obtain⟨xs,e,_⟩:=h;exact⟨_,e⟩
 |dk l=>obtain⟨xs,e,_⟩:=h;exact⟨_,e⟩
 |dt l=>obtain⟨xs,e,_⟩:=h;exact⟨_,e⟩
 |_=>exact h.elim
theorem Own.yu{ys:List V}(h:Own K F H a p)(e:H a=some (.tup ys)):False:=by
 cases p with
 |lst l=>obtain⟨xs,e',_⟩:=h;rw[e] at e';cases e'
 |dk l=>obtain⟨xs,e',_⟩:=h;rw[e] at e';cases e'
 |dt l=>obtain⟨xs,e',_⟩:=h;rw[e] at e';cases e'
 |_=>exact h.elim
theorem RD.up{P:Nat->Addr->Prop}(d:RD K C F H O Z P)(u:Up F H F' H'):RD K C F' H' O Z P where
 own:=λi b q=>by
  obtain⟨a1,⟨o',a2,a3⟩,a4⟩:=d.own i b q;refine⟨?_,⟨o',u.hh _ _ a2,a3⟩,a4⟩;cases e:F' b with
  |none=>rfl
  |some o=>
   rcases u.fr b o e with z|z|⟨ys,z⟩
   ·rw[a1] at z;cases z
   ·rw[a2] at z;cases z
   ·subst z;have w:=u.fh _ _ e;rw[u.hh _ _ a2] at w;cases w;exact absurd rfl (a3 ys)
 dis:=d.dis
 ow:=d.ow
 dp:=λi p e=>let⟨v,e1,e2⟩:=d.dp i p e;⟨v,e1,e2.up u.ff (λb o _ q=>u.hh b o q) λb ys q=>u.hh b _ q⟩
theorem Own.up(h:Own K F H a p)(sf:aU F F')(sh:∀ o,H a=some o->H' a=some o):Own K F' H' a p:=by
 cases p with
 |lst l=>obtain⟨xs,e,r⟩:=h;exact⟨xs,sh _ e,r.up sf⟩
 |dk l=>obtain⟨xs,e,r,q⟩:=h;exact⟨xs,sh _ e,r,λj x p a b=>(q j x p a b).up sf⟩
 |dt l=>obtain⟨xs,e,r,q⟩:=h;exact⟨xs,sh _ e,r,λj x p a b=>(q j x p a b).up sf⟩
 |_=>exact h.elim
theorem Own.frozen(h:Own K F H a p)(hn:F a=none):∃ o,H a=some o/\Rep K (upd F a o) (.ref a) p:=by
 have s:∀ o,aU F (upd F a o):=λo=>dU hn;cases p with
 |lst l=>obtain⟨xs,e,r⟩:=h;exact⟨_,e,.lst (SqL.of aN) r.1 (r.up (s _)).2⟩
 |dk l=>obtain⟨xs,e,r,q⟩:=h;exact⟨_,e,.dk (.inl aN) r λj x p a b=>(q j x p a b).up (s _)⟩
 |dt l=>obtain⟨xs,e,r,q⟩:=h;exact⟨_,e,.dt (.inl aN) r λj x p a b=>(q j x p a b).up (s _)⟩
 |_=>exact h.elim
theorem Own.lent(h:Own K F H a p)(s:aU F H):Rep K H (.ref a) p:=by
 cases p with
 |lst l=>obtain⟨xs,e,r⟩:=h;exact .lst (SqL.of e) r.1 (r.up s).2
 |dk l=>obtain⟨xs,e,r,q⟩:=h;exact .dk (.inl e) r λj x p a b=>(q j x p a b).up s
 |dt l=>obtain⟨xs,e,r,q⟩:=h;exact .dt (.inl e) r λj x p a b=>(q j x p a b).up s
 |_=>exact h.elim
theorem RB.up(h:RB C F H)(u:Up F H F' H'):RB C F' H' where
 sub:=u.fh
 keep:=λb o e n=>u.hh _ _ (h.keep b o e n)
 new:=λb o e=>(u.fr b o e).elim (h.new b o) λn=>.inr (n.imp (λn=>by
  cases q:C.H0 b with
  |none=>rfl
  |some o'=>
   by_cases hi:C.io b
   ·exact absurd n (h.ios b hi).1
   ·rw[h.keep b o' q hi] at n;cases n) id)
 ios:=λb hb=>⟨λn=>(h.ios b hb).1 (u.hh.free n),(h.ios b hb).2⟩
theorem RB.vz(h:RB C F H){b:Addr}(n:H b=none):C.H0 b=none:=by
 cases q:C.H0 b with
 |none=>rfl
 |some o'=>
  by_cases hi:C.io b
  ·exact absurd n (h.ios b hi).1
  ·rw[h.keep b o' q hi] at n;cases n
theorem RE.up(h:RE K C F H O Z)(u:Up F H F' H'):RE K C F' H' O Z where
 rb:=h.rb.up u
 len:=h.len
 sh:=λi p e=>let⟨v,e1,e2⟩:=h.sh i p e;⟨v,e1,e2.up u.ff⟩
 ow:=λi p e=>by
  obtain⟨a,e1,e2,e3,e4⟩:=h.ow i p e;refine⟨a,e1,e2.up u.ff λo q=>u.hh _ _ q,?_,e4⟩;cases q:F' a with
  |none=>rfl
  |some o=>
   obtain⟨o',eo⟩:=e2.ne;rcases u.fr a o q with z|z|⟨ys,z⟩
   ·rw[e3] at z;cases z
   ·rw[eo] at z;cases z
   ·subst z;exact absurd (u.fh _ _ q) (λw=>by rw[u.hh _ _ eo] at w;cases w;exact e2.yu eo)
 dis:=h.dis
 dd:=let⟨P,d⟩:=h.dd;⟨P,d.up u⟩
theorem get_set{α:Type}{l:List α}{i j:Nat}{x y:α}(h:(l.set i x)[j]?=some y):(i=j/\x=y)\/(i≠j/\l[j]?=some y):=by
 rw[ZbF] at h;by_cases e:i=j
 ·subst e;rw[Zam rfl] at h;split at h
  ·exact .inl ⟨rfl,Zaf h⟩
  ·cases h
 ·rw[Zal e] at h;exact .inr ⟨e,h⟩
theorem cF{α:Type}{l:List α}{j:Nat}{y:α}(h:l[j]?=some y):j<l.length:=(Zad.mp h).1
theorem RE.set(h:RE K C F H O Z)(i:Nat)(r:Rep K F v p):RE K C F H (O.set i (some v)) (Z.set i (some (.sh p))) where
 rb:=h.rb
 len:=by simp[h.len]
 sh:=λj q e=>by
  rcases get_set e with⟨e1,e2⟩|⟨e1,e2⟩
  ·subst e1;cases e2;have:=cF e;exact⟨v,by rw[Zbd (by rw[h.len];simpa using this)],r⟩
  ·obtain⟨w,e3,e4⟩:=h.sh j q e2;exact⟨w,by rw[Zaw e1];exact e3,e4⟩
 ow:=λj q e=>by
  rcases get_set e with⟨e1,e2⟩|⟨e1,e2⟩
  ·cases e2
  ·obtain⟨w,e3,e4⟩:=h.ow j q e2;exact⟨w,by rw[Zaw e1];exact e3,e4⟩
 dis:=λj k q q' a e e' f f'=>by
  rcases get_set e with⟨e1,e2⟩|⟨e1,e2⟩
  ·cases e2
  ·rcases get_set e' with⟨e1',e2'⟩|⟨e1',e2'⟩
   ·cases e2'
   ·rw[Zaw e1] at f;rw[Zaw e1'] at f';exact h.dis j k q q' a e2 e2' f f'
 dd:=let⟨P,d⟩:=h.dd;⟨P,d.own,d.dis,λj k q b z e f=>by
   rcases get_set e with⟨e1,e2⟩|⟨e1,e2⟩
   ·cases e2
   ·rw[Zaw e1] at f;exact d.ow j k q b z e2 f,λj q e=>by
   rcases get_set e with⟨e1,e2⟩|⟨e1,e2⟩
   ·cases e2
   ·obtain⟨w,e3,e4⟩:=d.dp j q e2;exact⟨w,by rw[Zaw e1];exact e3,e4⟩⟩
theorem RE.ZK(h:RE K C F H O Z)(i:Nat)(r:Own K F H a p)(hn:F a=none)(nw:C.nw)(h0:C.H0 a=none)(ha:∀ (j:Nat) q,Z[j]?=some (some (.ow q))->j≠i->O[j]?≠some (some (.ref a)))(hd:∃ P,RD K C F H O Z P/\∀ j,¬P j a) :
  RE K C F H (O.set i (some (.ref a))) (Z.set i (some (.ow p))) where
 rb:=h.rb
 len:=by simp[h.len]
 sh:=λj q e=>by
  rcases get_set e with⟨e1,e2⟩|⟨e1,e2⟩
  ·cases e2
  ·obtain⟨w,e3,e4⟩:=h.sh j q e2;exact⟨w,by rw[Zaw e1];exact e3,e4⟩
 ow:=λj q e=>by
  rcases get_set e with⟨e1,e2⟩|⟨e1,e2⟩
  ·subst e1;cases e2;have:=cF e;exact⟨a,by rw[Zbd (by rw[h.len];simpa using this)],r,hn,.inr ⟨nw,h0⟩⟩
  ·obtain⟨w,e3,e4⟩:=h.ow j q e2;exact⟨w,by rw[Zaw e1];exact e3,e4⟩
 dis:=λj k q q' b e e' f f'=>by
  rcases get_set e with⟨e1,e2⟩|⟨e1,e2⟩
  ·rcases get_set e' with⟨e1',e2'⟩|⟨e1',e2'⟩
   ·exact e1.symm.trans e1'
   ·subst e1;have:=cF e;rw[Zbd (by rw[h.len];simpa using this)] at f
    cases f;rw[Zaw e1'] at f';exact absurd f' (ha k q' e2' (Zbl e1'))
  ·rcases get_set e' with⟨e1',e2'⟩|⟨e1',e2'⟩
   ·subst e1';have:=cF e';rw[Zbd (by rw[h.len];simpa using this)] at f'
    cases f';rw[Zaw e1] at f;exact absurd f (ha j q e2 (Zbl e1))
   ·rw[Zaw e1] at f;rw[Zaw e1'] at f';exact h.dis j k q q' b e2 e2' f f'
 dd:=let⟨P,d,na⟩:=hd;⟨P,d.own,d.dis,λj k q b z e f=>by
   rcases get_set e with⟨e1,e2⟩|⟨e1,e2⟩
   ·subst e1;have:=cF e;rw[Zbd (by rw[h.len];simpa using this)] at f
    cases f;exact na j z
   ·rw[Zaw e1] at f;exact d.ow j k q b z e2 f,λj q e=>by
   rcases get_set e with⟨e1,e2⟩|⟨e1,e2⟩
   ·cases e2
   ·obtain⟨w,e3,e4⟩:=d.dp j q e2;exact⟨w,by rw[Zaw e1];exact e3,e4⟩⟩
theorem RE.Xl(h:RE K C F H O Z)(n:H a=none)(u:Up F H F' H'):∃ P,RD K C F' H' O Z P/\∀ j,¬P j a:=by
 obtain⟨P,d⟩:=h.dd;exact⟨P,d.up u,λj z=>by obtain⟨_,⟨o,e,_⟩,_⟩:=d.own j a z;rw[n] at e;cases e⟩
theorem RE.apart(h:RE K C F H O Z)(n:H a=none)(j:Nat)(q:PV)(e:Z[j]?=some (some (.ow q))):O[j]?≠some (some (.ref a)):=λf=>by
 obtain⟨b,e1,e2,_⟩:=h.ow j q e;rw[e1] at f;cases f;obtain⟨o,eo⟩:=e2.ne;rw[eo] at n;cases n
theorem RE.write(h:RE K C F H O Z){i:Nat}{o:HO}{p':PV}(e:Z[i]?=some (some (.ow p)))(ea:O[i]?=some (some (.ref a)))(r:Own K F (upd H a o) a p') :
  RE K C F (upd H a o) O (Z.set i (some (.ow p'))):=by
 obtain⟨a',e1,e2,e3,e4⟩:=h.ow i p e;rw[ea] at e1;cases e1;have ne:∀ b u,F b=some u->b≠a:=λb u q z=>by rw[z,e3] at q;cases q
 refine⟨⟨λb u q=>by rw[aJ (ne b u q)];exact h.rb.sub b u q,λb u q n=>?_,h.rb.new,λb hb=>⟨?_,(h.rb.ios b hb).2⟩⟩,by simp[h.len],λj q f=>?_,λj q f=>?_,λj k q q' b f f' g g'=>?_,?_⟩
 ·have:b≠a:=λz=>by
   subst z;rcases e4 with z|z
   ·exact n z
   ·rw[z.2] at q;cases q
  rw[aJ this];exact h.rb.keep b u q n
 ·by_cases hba:b=a
  ·subst hba;rw[aN];simp
  ·rw[aJ hba];exact(h.rb.ios b hb).1
 ·rcases get_set f with⟨e1,f2⟩|⟨e1,f2⟩
  ·cases f2
  ·exact h.sh j q f2
 ·rcases get_set f with⟨e1,f2⟩|⟨e1,f2⟩
  ·subst e1;cases f2;exact⟨a,ea,r,e3,e4⟩
  ·obtain⟨b,g1,g2,g3,g4⟩:=h.ow j q f2;refine⟨b,g1,g2.up (aU.refl _) λu qq=>?_,g3,g4⟩;have:b≠a:=λz=>by subst z;exact e1 (h.dis i j p q b e f2 ea g1)
   rw[aJ this];exact qq
 ·have key:∀ (j:Nat) q,(Z.set i (some (Sl.ow p')))[j]?=some (some (.ow q))->∃ q0,Z[j]?=some (some (.ow q0)):=λj q f=>by
   rcases get_set f with⟨e1,f2⟩|⟨e1,f2⟩
   ·subst e1;exact⟨p,e⟩
   ·exact⟨q,f2⟩
  obtain⟨q0,k0⟩:=key j q f;obtain⟨q1,k1⟩:=key k q' f';exact h.dis j k q0 q1 b k0 k1 g g'
 ·obtain⟨P,d⟩:=h.dd;have na:∀ j b,P j b->b≠a:=λj b z e'=>by subst e';exact d.ow j i p b z e ea
  refine⟨P,λj b z=>?_,d.dis,λj k q b z f g=>?_,λj q f=>?_⟩
  ·rw[aJ (na j b z)];exact d.own j b z
  ·rcases get_set f with⟨f1,f2⟩|⟨f1,f2⟩
   ·subst f1;exact d.ow j i p b z e g
   ·exact d.ow j k q b z f2 g
  ·rcases get_set f with⟨f1,f2⟩|⟨f1,f2⟩
   ·cases f2
   ·obtain⟨w,e3,e5⟩:=d.dp j q f2;exact⟨w,e3,e5.up (aU.refl _) (λb o z q=>by rw[aJ (na j b z)];exact q) λb ys q=>by rw[aJ λz=>by subst z;exact e2.yu q];exact q⟩
theorem RE.frz(h:RE K C F H O Z){i:Nat}(e:Z[i]?=some (some (.ow p)))(hio:∀ a,O[i]?=some (some (.ref a))->¬C.io a):∃ F',aU F F'/\RE K C F' H O (Z.set i (some (.sh p))):=by
 obtain⟨a,e1,e2,e3,e4⟩:=h.ow i p e;obtain⟨o,eo,r⟩:=e2.frozen e3;have h0:C.H0 a=none:=(e4.resolve_left (hio a e1)).2;have sf:aU F (upd F a o):=dU e3;have li:=cF e;refine⟨upd F a o,sf,⟨⟨λb u q=>?_,h.rb.keep,λb u q=>?_,h.rb.ios⟩,by simp[h.len],λj q f=>?_,λj q f=>?_,λj k q q' b f f' g g'=>?_,?_⟩⟩
 ·by_cases hb:b=a
  ·subst hb;rw[aN] at q;cases q;exact eo
  ·rw[aJ hb] at q;exact h.rb.sub b u q
 ·by_cases hb:b=a
  ·subst hb;exact .inr (.inl h0)
  ·rw[aJ hb] at q;exact h.rb.new b u q
 ·rcases get_set f with⟨f1,f2⟩|⟨f1,f2⟩
  ·subst f1;cases f2;exact⟨_,e1,r⟩
  ·obtain⟨v,g1,g2⟩:=h.sh j q f2;exact⟨v,g1,g2.up sf⟩
 ·rcases get_set f with⟨f1,f2⟩|⟨f1,f2⟩
  ·cases f2
  ·obtain⟨b,g1,g2,g3,g4⟩:=h.ow j q f2;refine⟨b,g1,g2.up sf λ_ z=>z,?_,g4⟩;have:b≠a:=λz=>by subst z;exact f1 (h.dis i j p q b e f2 e1 g1)
   rw[aJ this];exact g3
 ·rcases get_set f with⟨f1,f2⟩|⟨f1,f2⟩
  ·cases f2
  ·rcases get_set f' with⟨f1',f2'⟩|⟨f1',f2'⟩
   ·cases f2'
   ·exact h.dis j k q q' b f2 f2' g g'
 ·obtain⟨P,d⟩:=h.dd;have na:∀ j b,P j b->b≠a:=λj b z e'=>by subst e';exact d.ow j i p b z e e1
  refine⟨P,λj b z=>?_,d.dis,λj k q b z f g=>?_,λj q f=>?_⟩
  ·rw[aJ (na j b z)];exact d.own j b z
  ·rcases get_set f with⟨f1,f2⟩|⟨f1,f2⟩
   ·cases f2
   ·exact d.ow j k q b z f2 g
  ·rcases get_set f with⟨f1,f2⟩|⟨f1,f2⟩
   ·cases f2
   ·obtain⟨w,e3,e5⟩:=d.dp j q f2;exact⟨w,e3,e5.up sf (λ_ _ _ q=>q) λ_ _ q=>q⟩
end
structure Cg extends Cf where
 XR:Hp->Value->Option Addr->PV->Prop
def PX(C:Cg)(F:Hp)(z:PV):Prop:=∀ e d F' H',aU F F'->RB C.toCf F' H'->C.XR F' e d z->C.E e d H'
def Pr{α:Type}(C:Cg)(F:Hp)(ok:α->Prop):Res α->Prop
 |.ok a=>ok a
 |.ex z=>PX C F z
noncomputable abbrev Rel(α:Type):=Hp->Hp->V->α->Prop
def aF(K:Frag):Rel PV:=λF _ v p=>Rep K F v p
def aH(K:Frag):Rel PV:=λ_ H v p=>Rep K H v p
def aV(K:Frag):Rel (List PV):=λF H v l=>∃ a xs,v=.ref a/\SqL K H a xs/\bG K F xs l
def UpM{α:Type}(A:Rel α):Prop:=∀ F H F' H' v a,Up F H F' H'->A F H v a->A F' H' v a
theorem aF.up{K:Frag}:UpM (aF K):=λ_ _ _ _ _ _ u h=>Rep.up h u.ff
theorem aH.up{K:Frag}:UpM (aH K):=λ_ _ _ _ _ _ u h=>Rep.up h u.hh
theorem aV.up{K:Frag}:UpM (aV K):=λ_ _ _ _ _ _ u h=>let⟨a,xs,e,s,r⟩:=h;⟨a,xs,e,u.hh.seq s,r.up u.ff⟩
noncomputable abbrev Fn(α:Type):=Rho->Option (Res α)
def MJ{α:Type}(K:Frag)(C:Cg)(A:Rel α)(te:TE)(f:Fn α):Prop:=
 ∀ F H O Z Q r,RE K C.toCf F H O Z->f Z=some r->Pr C F (λa=>∀ v F' H',Up F H F' H'->A F' H' v a->Q v H') r->te O H Q
def MT(K:Frag)(C:Cg)(tt:TT)(f:Fn Bool):Prop:=
 ∀ F H O Z Q r,RE K C.toCf F H O Z->f Z=some r->Pr C F (λb=>∀ F' H',Up F H F' H'->Q b H') r->tt O H Q
def MA(K:Frag)(C:Cg)(ta:TA)(f:Fn (List PV)):Prop:=
 ∀ F H O Z Q r,RE K C.toCf F H O Z->f Z=some r->Pr C F (λl=>∀ xs F' H',Up F H F' H'->bG K F' xs l->Q xs H') r->ta O H Q
def MAL(K:Frag)(C:Cg)(ta:TA)(f:Fn (List PV)):Prop:=
 ∀ F H O Z Q r,RE K C.toCf F H O Z->f Z=some r->Pr C F (λl=>∀ xs F' H',Up F H F' H'->bG K H' xs l->Q xs H') r->ta O H Q
def MO(K:Frag)(C:Cg)(te:TE)(f:Fn PV):Prop:=
 ∀ F H O Z Q r,RE K C.toCf F H O Z->f Z=some r->Pr C F (λp=>∀ a F' H',Up F H F' H'->H a=none->F' a=none->Own K F' H' a p->Q (.ref a) H') r->te O H Q
theorem bM{α β:Type}{x:Option (Res α)}{k:α->Option (Res β)}{r:Res β}(h:bnd x k=some r):(∃ z,x=some (.ex z)/\r=.ex z)\/∃ a,x=some (.ok a)/\k a=some r:=by
 match x,h with
 |some (.ok a),h=>exact .inr ⟨a,rfl,h⟩
 |some (.ex z),h=>exact .inl ⟨z,rfl,(Zaf h).symm⟩
theorem Pr.ex{α β:Type}{C:Cg}{F:Hp}{ok:α->Prop}{ok':β->Prop}{z:PV}(h:Pr C F ok (.ex z)):Pr C F ok' (.ex z):=h
theorem PX.up{C:Cg}{F F1:Hp}{z:PV}(h:PX C F z)(s:aU F F1):PX C F1 z:=λe d F' H' a b c=>h e d F' H' (s.trans a) b c
theorem Pr.mono{α:Type}{C:Cg}{F F1:Hp}{ok ok':α->Prop}{r:Res α}(h:Pr C F ok r)(s:aU F F1)(k:∀ a,ok a->ok' a):Pr C F1 ok' r:=by
 cases r with
 |ok a=>exact k a h
 |ex z=>exact PX.up h s
section
variable{K:Frag}{C:Cg}{α β γ:Type}{A:Rel α}{B:Rel β}{D:Rel γ}{ta tb:TE}{f:Fn α}{g:Fn β}{F H:Hp}{O:St}{Z:Rho}{Q:VK}
theorem MJ.run{ok:β->Prop}{k:α->Option (Res β)}{r:Res β}(h:MJ K C A ta f)(R:RE K C.toCf F H O Z)(hb:bnd (f Z) k=some r)(P:Pr C F ok r)
  (go:∀ p v F1 H1,k p=some r->Up F H F1 H1->A F1 H1 v p->Q v H1):ta O H Q:=by
 rcases bM hb with⟨z,e,rfl⟩|⟨p,e,hk⟩
 ·exact h F H O Z Q _ R e P
 ·exact h F H O Z Q _ R e λv F1 H1 u a=>go p v F1 H1 hk u a
theorem MT.run{tt:TT}{f:Fn Bool}{Q:Bool->Hp->Prop}{ok:β->Prop}{k:Bool->Option (Res β)}{r:Res β}(h:MT K C tt f)(R:RE K C.toCf F H O Z)(hb:bnd (f Z) k=some r)(P:Pr C F ok r)
  (go:∀ b F1 H1,k b=some r->Up F H F1 H1->Q b H1):tt O H Q:=by
 rcases bM hb with⟨z,e,rfl⟩|⟨p,e,hk⟩
 ·exact h F H O Z Q _ R e P
 ·exact h F H O Z Q _ R e λF1 H1 u=>go p F1 H1 hk u
theorem MA.run{t:TA}{f:Fn (List PV)}{Q:List V->Hp->Prop}{ok:β->Prop}{k:List PV->Option (Res β)}{r:Res β}(h:MA K C t f)(R:RE K C.toCf F H O Z)(hb:bnd (f Z) k=some r)(P:Pr C F ok r)
  (go:∀ l xs F1 H1,k l=some r->Up F H F1 H1->bG K F1 xs l->Q xs H1):t O H Q:=by
 rcases bM hb with⟨z,e,rfl⟩|⟨p,e,hk⟩
 ·exact h F H O Z Q _ R e P
 ·exact h F H O Z Q _ R e λxs F1 H1 u a=>go p xs F1 H1 hk u a
theorem MAL.run{t:TA}{f:Fn (List PV)}{Q:List V->Hp->Prop}{ok:β->Prop}{k:List PV->Option (Res β)}{r:Res β}(h:MAL K C t f)(R:RE K C.toCf F H O Z)(hb:bnd (f Z) k=some r)(P:Pr C F ok r)
  (go:∀ l xs F1 H1,k l=some r->Up F H F1 H1->bG K H1 xs l->Q xs H1):t O H Q:=by
 rcases bM hb with⟨z,e,rfl⟩|⟨p,e,hk⟩
 ·exact h F H O Z Q _ R e P
 ·exact h F H O Z Q _ R e λxs F1 H1 u a=>go p xs F1 H1 hk u a
theorem MO.run{f:Fn PV}{ok:β->Prop}{k:PV->Option (Res β)}{r:Res β}(h:MO K C ta f)(R:RE K C.toCf F H O Z)(hb:bnd (f Z) k=some r)(P:Pr C F ok r)
  (go:∀ p a F1 H1,k p=some r->Up F H F1 H1->H a=none->F1 a=none->Own K F1 H1 a p->Q (.ref a) H1):ta O H Q:=by
 rcases bM hb with⟨z,e,rfl⟩|⟨p,e,hk⟩
 ·exact h F H O Z Q _ R e P
 ·exact h F H O Z Q _ R e λa F1 H1 u h1 h2 h3=>go p a F1 H1 hk u h1 h2 h3
theorem Pr.later{D:Rel γ}{r:Res γ}{F1 H1:Hp}(P:Pr C F (λa=>∀ v F' H',Up F H F' H'->D F' H' v a->Q v H') r)(u:Up F H F1 H1):Pr C F1 (λa=>∀ v F' H',Up F1 H1 F' H'->D F' H' v a->Q v H') r:=
 P.mono u.ff λ_ h v F' H' u' d=>h v F' H' (u.trans u') d
theorem Pr.Rc{Q:Bool->Hp->Prop}{r:Res Bool}{F1 H1:Hp}(P:Pr C F (λb=>∀ F' H',Up F H F' H'->Q b H') r)(u:Up F H F1 H1):Pr C F1 (λb=>∀ F' H',Up F1 H1 F' H'->Q b H') r:=
 P.mono u.ff λ_ h F' H' u'=>h F' H' (u.trans u')
theorem Pr.zO{r:Res PV}{F1 H1:Hp}(P:Pr C F (λp=>∀ a F' H',Up F H F' H'->H a=none->F' a=none->Own K F' H' a p->Q (.ref a) H') r)(u:Up F H F1 H1) :
  Pr C F1 (λp=>∀ a F' H',Up F1 H1 F' H'->H1 a=none->F' a=none->Own K F' H' a p->Q (.ref a) H') r:=
 P.mono u.ff λ_ h a F' H' u' n1 n2 d=>h a F' H' (u.trans u') (u.hh.free n1) n2 d
theorem Pr.Xm{Q:List V->Hp->Prop}{r:Res (List PV)}{F1 H1:Hp}(P:Pr C F (λl=>∀ xs F' H',Up F H F' H'->bG K F' xs l->Q xs H') r)(u:Up F H F1 H1):Pr C F1 (λl=>∀ xs F' H',Up F1 H1 F' H'->bG K F' xs l->Q xs H') r:=
 P.mono u.ff λ_ h xs F' H' u' d=>h xs F' H' (u.trans u') d
theorem Pr.Xn{Q:List V->Hp->Prop}{r:Res (List PV)}{F1 H1:Hp}(P:Pr C F (λl=>∀ xs F' H',Up F H F' H'->bG K H' xs l->Q xs H') r)(u:Up F H F1 H1):Pr C F1 (λl=>∀ xs F' H',Up F1 H1 F' H'->bG K H' xs l->Q xs H') r:=
 P.mono u.ff λ_ h xs F' H' u' d=>h xs F' H' (u.trans u') d
def mV(i:Nat):Fn PV:=λZ=>match Z[i]? with
 |some (some (.sh p))=>some (.ok p)
 |_=>none
theorem aj(i:Nat):MJ K C (aF K) (lJ i) (mV i):=by
 intro F H O Z Q r R e P;unfold mV at e;split at e
 ·rename_i p hp;cases e;obtain⟨v,e1,e2⟩:=R.sh i p hp;exact⟨v,e1,P v F H (Up.refl R.rb.sub) e2⟩
 ·cases e
def mVL(i:Nat):Fn PV:=λZ=>match Z[i]? with
 |some (some (.sh p))=>some (.ok p)
 |some (some (.ow p))=>some (.ok p)
 |_=>none
theorem bD(i:Nat):MJ K C (aH K) (lJ i) (mVL i):=by
 intro F H O Z Q r R e P;unfold mVL at e;split at e
 ·rename_i p hp;cases e;obtain⟨v,e1,e2⟩:=R.sh i p hp;exact⟨v,e1,P v F H (Up.refl R.rb.sub) (e2.up R.rb.sub)⟩
 ·rename_i p hp;cases e;obtain⟨a,e1,e2,e3,_⟩:=R.ow i p hp;exact⟨_,e1,P _ F H (Up.refl R.rb.sub) (e2.lent R.rb.sub)⟩
 ·cases e
def yw:PV->Option (Res (List PV))
 |.lst l=>some (.ok l)
 |_=>none
theorem zc{f:Fn PV}(h:MJ K C (aF K) ta f):MJ K C (aV K) ta (λZ=>bnd (f Z) yw):=by
 intro F H O Z Q r R e P;refine h.run R e P λp v F1 H1 hk u a=>?_
 match p,hk with
 |.lst l,hk=>
  cases hk;obtain⟨b,xs,rfl,s,rr⟩:=Rep.cC a;exact P _ F1 H1 u ⟨b,xs,rfl,u.fh.seq s,rr⟩
theorem jf(i:Nat):MJ K C (aV K) (lJ i) (λZ=>bnd (mVL i Z) yw):=by
 intro F H O Z Q r R e P;rcases bM e with⟨z,e1,rfl⟩|⟨p,e1,hk⟩
 ·unfold mVL at e1;split at e1<;>cases e1
 ·unfold mVL at e1
  match p,hk with
  |.lst l,hk=>
   cases hk;split at e1
   ·rename_i q hq;cases e1;obtain⟨v,e2,e3⟩:=R.sh i _ hq;obtain⟨b,xs,rfl,s,rr⟩:=Rep.cC e3;exact⟨_,e2,P _ F H (Up.refl R.rb.sub) ⟨b,xs,rfl,R.rb.sub.seq s,rr⟩⟩
   ·rename_i q hq;cases e1;obtain⟨a,e2,⟨xs,e3,rr⟩,_⟩:=R.ow i _ hq;exact⟨_,e2,P _ F H (Up.refl R.rb.sub) ⟨a,xs,rfl,SqL.of e3,rr⟩⟩
   ·cases e1
theorem bO{f:Fn PV}(h:MJ K C (aF K) ta f):MJ K C (aH K) ta f:=by
 intro F H O Z Q r R e P;refine h F H O Z Q r R e ?_;exact P.mono (aU.refl _) λ_ k v F' H' u d=>k v F' H' u (Rep.up d u.fh)
def mC(p:PV):Fn PV:=λ_=>some (.ok p)
theorem Rf{v:V}{p:PV}(h:∀ F,Rep K F v p):MJ K C (aF K) (tC v) (mC p):=by
 intro F H O Z Q r R e P;cases e;exact P v F H (Up.refl R.rb.sub) (h F)
theorem aB{i:Int}:MJ K C (aF K) (tC (.int i)) (mC (.int i)):=Rf λ_=>.int
theorem HN{i:Bool}:MJ K C (aF K) (tC (.bl i)) (mC (.bl i)):=Rf λ_=>.bl
theorem j8{i:Str}:MJ K C (aF K) (tC (.str i)) (mC (.str i)):=Rf λ_=>.str
theorem ul:MJ K C (aF K) (tC .non) (mC .non):=Rf λ_=>.non
theorem HQ{n:String}:MJ K C (aF K) (tC (.ty n)) (mC (.ty n)):=Rf λ_=>.ty
theorem bZ{f:Fn PV}(h:MO K C ta f):MJ K C (aF K) ta f:=by
 intro F H O Z Q r R e P;refine h F H O Z Q r R e (P.mono (aU.refl _) λp k a F' H' u n1 n2 o=>?_);obtain⟨ob,eo,rr⟩:=o.frozen n2;refine k _ (upd F' a ob) H' ⟨u.ff.trans (dU n2),u.hh,λb x q=>?_,λb x q=>?_⟩ rr
 ·by_cases hb:b=a
  ·subst hb;exact .inr (.inl n1)
  ·rw[aJ hb] at q;exact u.fr b x q
 ·by_cases hb:b=a
  ·subst hb;rw[aN] at q;cases q;exact eo
  ·rw[aJ hb] at q;exact u.fh b x q
theorem lL{f:Fn PV}(h:MO K C ta f):MJ K C (aV K) ta (λZ=>bnd (f Z) yw):=zc (bZ h)
def m2{α β γ:Type}(op:α->β->Option (Res γ))(f:Fn α)(g:Fn β):Fn γ:=λZ=>bnd (f Z) λa=>bnd (g Z) λb=>op a b
def R2M(C:Cg)(A:Rel α)(B:Rel β)(D:Rel γ)(r:R2)(op:α->β->Option (Res γ)):Prop:=
 ∀ F H x y a b res Q,aU F H->A F H x a->B F H y b->op a b=some res->Pr C F (λc=>∀ v F' H',Up F H F' H'->D F' H' v c->Q v H') res->r x y H Q
theorem au{op:α->β->Option (Res γ)}{r2:R2}(up:UpM A)(rule:R2M C A B D r2 op)(ha:MJ K C A ta f)(hb:MJ K C B tb g):MJ K C D (tOp r2 ta tb) (m2 op f g):=by
 intro F H O Z Q r R e P;refine ha.run R e P λp v F1 H1 hk u a=>?_;refine hb.run (R.up u) hk (P.later u) λq w F2 H2 hk2 u2 b=>?_;exact rule F2 H2 v w p q r Q u2.fh (up _ _ _ _ _ _ u2 a) b hk2 (P.later (u.trans u2))
def R2O(K:Frag)(C:Cg)(A:Rel α)(B:Rel β)(r:R2)(op:α->β->Option (Res PV)):Prop:=
 ∀ F H x y a b res Q,aU F H->A F H x a->B F H y b->op a b=some res->Pr C F (λp=>∀ a F' H',Up F H F' H'->H a=none->F' a=none->Own K F' H' a p->Q (.ref a) H') res->r x y H Q
theorem Rg{op:α->β->Option (Res PV)}{r2:R2}(up:UpM A)(rule:R2O K C A B r2 op)(ha:MJ K C A ta f)(hb:MJ K C B tb g):MO K C (tOp r2 ta tb) (m2 op f g):=by
 intro F H O Z Q r R e P;refine ha.run R e P λp v F1 H1 hk u a=>?_;refine hb.run (R.up u) hk (P.zO u) λq w F2 H2 hk2 u2 b=>?_;exact rule F2 H2 v w p q r Q u2.fh (up _ _ _ _ _ _ u2 a) b hk2 (P.zO (u.trans u2))
def m1{α γ:Type}(op:α->Option (Res γ))(f:Fn α):Fn γ:=λZ=>bnd (f Z) op
def Fo(o1 o2:PV->PV->Option (Res PV))(f g h:Fn PV):Fn PV:=λZ=>bnd (f Z) λa=>bnd (g Z) λb=>bnd (o1 a b) λz=>match z with
 |.bl true=>bnd (h Z) λc=>o2 b c
 |.bl false=>some (.ok (.bl false))
 |_=>none
theorem Rh{o1 o2:PV->PV->Option (Res PV)}{r r':R2}{tc:TE}{f g h:Fn PV}(r1:R2M C (aF K) (aF K) (aF K) r o1)(r2:R2M C (aF K) (aF K) (aF K) r' o2)(ha:MJ K C (aF K) ta f)(hb:MJ K C (aF K) tb g)(hc:MJ K C (aF K) tc h) :
  MJ K C (aF K) (QH r r' ta tb tc) (Fo o1 o2 f g h):=by
 intro F H O Z Q r R e P;refine ha.run R e P λp v F1 H1 hk u a=>?_;refine hb.run (R.up u) hk (P.later u) λq w F2 H2 hk2 u2 b=>?_;rcases bM hk2 with⟨z,e1,rfl⟩|⟨z,e1,hk3⟩
 ·exact r1 F2 H2 v w p q _ _ u2.fh (aF.up _ _ _ _ _ _ u2 a) b e1 (PX.up P (u.trans u2).ff)
 ·refine r1 F2 H2 v w p q _ _ u2.fh (aF.up _ _ _ _ _ _ u2 a) b e1 λvz F3 H3 u3 rz=>?_
  match z,hk3 with
  |.bl true,hk3=>
   cases Rep.je rz;refine⟨true,rfl,?_⟩;rw[Zam rfl];have u13:=u.trans (u2.trans u3);refine hc.run (R.up u13) hk3 (P.later u13) λc wc F4 H4 hk4 u4 rc=>?_;exact r2 F4 H4 w wc q c _ Q u4.fh (Rep.up b (u3.trans u4).ff) rc hk4 (P.later (u13.trans u4))
  |.bl false,hk3=>
   cases Rep.je rz;cases hk3;refine⟨false,rfl,?_⟩;rw[Zal (by decide)]
   exact P _ F3 H3 (u.trans (u2.trans u3)) .bl
def zP(f g:Fn PV):Fn PV:=λZ=>bnd (f Z) λa=>match a with
 |.bl true=>g Z
 |.bl false=>some (.ok (.bl false))
 |_=>none
def Ri:PV->Option (Res PV)
 |.bl b=>some (.ok (.bl (!b)))
 |_=>none
theorem Fp{f g:Fn PV}(ha:MJ K C (aF K) ta f)(hb:MJ K C (aF K) tb g):MJ K C (aF K) (VN ta tb) (zP f g):=by
 intro F H O Z Q r R e P;refine ha.run R e P λp v F1 H1 hk u a=>?_
 match p,hk with
 |.bl true,hk=>
  cases Rep.je a;refine⟨true,rfl,?_⟩;rw[Zam rfl];exact hb F1 H1 O Z Q r (R.up u) hk (P.later u)
 |.bl false,hk=>
  cases Rep.je a;cases hk;refine⟨false,rfl,?_⟩;rw[Zal (by decide)]
  exact P _ F1 H1 u .bl
theorem Xo{f:Fn PV}(ha:MJ K C (aF K) ta f):MJ K C (aF K) (VP ta) (m1 Ri f):=by
 intro F H O Z Q r R e P;refine ha.run R e P λp v F1 H1 hk u a=>?_
 match p,hk with
 |.bl b,hk=>
  cases Rep.je a;cases hk;exact⟨b,rfl,P _ F1 H1 u .bl⟩
def cY:PV->Option (Res Bool)
 |.bl b=>some (.ok b)
 |_=>none
theorem bx{f:Fn PV}(ha:MJ K C (aF K) ta f):MT K C (V6 ta) (m1 cY f):=by
 intro F H O Z Q r R e P;refine ha.run R e P λp v F1 H1 hk u a=>?_
 match p,hk with
 |.bl b,hk=>
  cases Rep.je a;cases hk;exact⟨b,rfl,P F1 H1 u⟩
theorem qt{f:Fn PV}(ha:MJ K C (aF K) ta f):MT K C (tB ta) (m1 cY f):=bx ha
def Pb(f g:Fn Bool):Fn Bool:=λZ=>bnd (f Z) λa=>if a=true then g Z else some (.ok false)
def mOr(f g:Fn Bool):Fn Bool:=λZ=>bnd (f Z) λa=>if a=true then some (.ok true) else g Z
def HR(f:Fn Bool):Fn Bool:=λZ=>bnd (f Z) λa=>some (.ok (!a))
variable{c d:TT}{fc gc:Fn Bool}
theorem K3(ha:MT K C c fc)(hb:MT K C d gc):MT K C (Yt c d) (Pb fc gc):=by
 intro F H O Z Q r R e P;refine ha.run R e P λb F1 H1 hk u=>?_;cases b with
 |true=>rw[Zam rfl] at hk ⊢;exact hb F1 H1 O Z Q r (R.up u) hk (P.Rc u)
 |false=>rw[Zal (by decide)] at hk ⊢;cases hk;exact P F1 H1 u
theorem vA(ha:MT K C c fc)(hb:MT K C d gc):MT K C (tOr c d) (mOr fc gc):=by
 intro F H O Z Q r R e P;refine ha.run R e P λb F1 H1 hk u=>?_;cases b with
 |true=>rw[Zam rfl] at hk ⊢;cases hk;exact P F1 H1 u
 |false=>rw[Zal (by decide)] at hk ⊢;exact hb F1 H1 O Z Q r (R.up u) hk (P.Rc u)
theorem zQ(ha:MT K C c fc):MT K C (Yu c) (HR fc):=by
 intro F H O Z Q r R e P;refine ha.run R e P λb F1 H1 hk u=>?_;cases hk;exact P F1 H1 u
def mIf{γ:Type}(f:Fn Bool)(g h:Fn γ):Fn γ:=λZ=>bnd (f Z) λa=>if a=true then g Z else h Z
theorem Wc{f g:Fn γ}(hc:MT K C c fc)(ha:MJ K C D ta f)(hb:MJ K C D tb g):MJ K C D (tIf c ta tb) (mIf fc f g):=by
 intro F H O Z Q r R e P;refine hc.run R e P λb F1 H1 hk u=>?_;cases b with
 |true=>rw[Zam rfl] at hk ⊢;exact ha F1 H1 O Z Q r (R.up u) hk (P.later u)
 |false=>rw[Zal (by decide)] at hk ⊢;exact hb F1 H1 O Z Q r (R.up u) hk (P.later u)
def bf:Fn (List PV):=λ_=>some (.ok [])
def az(f:Fn PV)(g:Fn (List PV)):Fn (List PV):=λZ=>bnd (f Z) λa=>bnd (g Z) λl=>some (.ok (a::l))
theorem aP:MA K C xx bf:=λF H O Z Q r R e P=>by
 cases e;exact P [] F H (Up.refl R.rb.sub) .nil
theorem ao{f:Fn PV}{g:Fn (List PV)}{t:TA}(ha:MJ K C (aF K) ta f)(hb:MA K C t g):MA K C (kO ta t) (az f g):=by
 intro F H O Z Q r R e P;refine ha.run R e P λp v F1 H1 hk u a=>?_;refine hb.run (R.up u) hk (P.Xm u) λl xs F2 H2 hk2 u2 b=>?_;cases hk2;exact P _ F2 H2 (u.trans u2) (b.cons (Rep.up a u2.ff))
theorem Mz:MAL K C xx bf:=λF H O Z Q r R e P=>by
 cases e;exact P [] F H (Up.refl R.rb.sub) .nil
theorem oh{f:Fn PV}{g:Fn (List PV)}{t:TA}(ha:MJ K C (aH K) ta f)(hb:MAL K C t g):MAL K C (kO ta t) (az f g):=by
 intro F H O Z Q r R e P;refine ha.run R e P λp v F1 H1 hk u a=>?_;refine hb.run (R.up u) hk (P.Xn u) λl xs F2 H2 hk2 u2 b=>?_;cases hk2;exact P _ F2 H2 (u.trans u2) (b.cons (Rep.up a u2.hh))
theorem Up.Cz{F H:Hp}{a:Addr}{o:HO}(s:aU F H)(h:H a=none):Up F H F (upd H a o):=⟨aU.refl _,dU h,λ_ _ q=>.inl q,s.trans (dU h)⟩
theorem Up.new{F H:Hp}{a:Addr}{o:HO}(s:aU F H)(h:H a=none):Up F H (upd F a o) (upd H a o):=by
 have hf:F a=none:=s.free h;refine⟨dU hf,dU h,λb u q=>?_,λb u q=>?_⟩
 ·by_cases hb:b=a
  ·subst hb;exact .inr (.inl h)
  ·rw[aJ hb] at q;exact .inl q
 ·by_cases hb:b=a
  ·subst hb;rw[aN] at q ⊢;exact q
  ·rw[aJ hb] at q ⊢;exact s b u q
def nH(f:Fn (List PV)):Fn PV:=λZ=>bnd (f Z) λl=>if l.length<=sizeLine then some (.ok (.tup l)) else none
def zR(f:Fn (List PV)):Fn PV:=λZ=>bnd (f Z) λl=>if l.length<=sizeLine then some (.ok (.lst l)) else none
theorem fK{t:TA}{f:Fn (List PV)}(h:MA K C t f):MJ K C (aF K) (W8 t) (nH f):=by
 intro F H O Z Q r R e P;refine h.run R e P λl xs F1 H1 hk u a=>?_;split at hk
 ·rename_i hl;cases hk;refine⟨by rw[a.1];exact hl,λp hp=>?_⟩
  have un:=Up.new (o:=.tup xs) u.fh hp;exact P _ _ _ (u.trans un) (.tup aN a.1 (a.up un.ff).2)
 ·cases hk
theorem qu{t:TA}{f:Fn (List PV)}(h:MA K C t f):MO K C (W9 t) (zR f):=by
 intro F H O Z Q r R e P;refine h.run R e P λl xs F1 H1 hk u a=>?_;split at hk
 ·rename_i hl;cases hk;refine⟨by rw[a.1];exact hl,λp hp=>?_⟩
  exact P _ _ _ (u.trans (Up.Cz u.fh hp)) (u.hh.free hp) (u.fh.free hp) ⟨xs,aN,a⟩
 ·cases hk
def spM(K:Frag)(XR:Hp->Value->Option Addr->PV->Prop)(m:List PV->Option (Res PV)):Sp:=λvs H Q E=>∃ ps F r,aU F H/\bG K F vs ps/\m ps=some r/\match r with
 |.ok p=>∀ v F' H',Up F H F' H'->Rep K F' v p->Q v H'
 |.ex z=>∀ e d F' H',Up F H F' H'->XR F' e d z->E e d H'
def spO(K:Frag)(XR:Hp->Value->Option Addr->PV->Prop)(m:List PV->Option (Res PV)):Sp:=λvs H Q E=>∃ ps F r,aU F H/\bG K F vs ps/\m ps=some r/\match r with
 |.ok p=>∀ a F' H',Up F H F' H'->H a=none->F' a=none->Own K F' H' a p->Q (.ref a) H'
 |.ex z=>∀ e d F' H',Up F H F' H'->XR F' e d z->E e d H'
def bF(m:List PV->Option (Res PV))(f:Fn (List PV)):Fn PV:=λZ=>bnd (f Z) m
theorem bH{t:TA}{f:Fn (List PV)}{m:List PV->Option (Res PV)}(h:MA K C t f):MJ K C (aF K) (zJ (spM K C.XR m) [] C.E t) (bF m f):=by
 intro F H O Z Q r R e P;refine h.run R e P λl xs F1 H1 hk u a=>?_;refine⟨l,F1,r,u.fh,by rw[Zbp];exact a,hk,?_⟩
 cases r with
 |ok p=>exact λv F' H' u' rv=>P v F' H' (u.trans u') rv
 |ex z=>exact λe d F' H' u' x=>P e d F' H' (u.trans u').ff (R.rb.up (u.trans u')) x
theorem eE{t:TA}{f:Fn (List PV)}{m:List PV->Option (Res PV)}(h:MA K C t f):MO K C (zJ (spO K C.XR m) [] C.E t) (bF m f):=by
 intro F H O Z Q r R e P;refine h.run R e P λl xs F1 H1 hk u a=>?_;refine⟨l,F1,r,u.fh,by rw[Zbp];exact a,hk,?_⟩
 cases r with
 |ok p=>exact λv F' H' u' n1 n2 rv=>P v F' H' (u.trans u') (u.hh.free n1) n2 rv
 |ex z=>exact λe d F' H' u' x=>P e d F' H' (u.trans u').ff (R.rb.up (u.trans u')) x
end
inductive Out where
 |nx (Z:Rho)|rt (p:PV)|ro (p:PV)|rd (p:PV)|bk (Z:Rho)|ct (Z:Rho)|ex (z:PV)
noncomputable abbrev Sn:=Rho->Option Out
def PO'(K:Frag)(C:Cg)(F:Hp)(D:Ends):Out->Prop
 |.nx Z=>∀ F' H' O,aU F F'->RE K C.toCf F' H' O Z->D.nx O H'
 |.bk Z=>∀ F' H' O,aU F F'->RE K C.toCf F' H' O Z->D.bk O H'
 |.ct Z=>∀ F' H' O,aU F F'->RE K C.toCf F' H' O Z->D.ct O H'
 |.rt p=>∀ v F' H',aU F F'->RB C.toCf F' H'->Rep K F' v p->D.rt v H'
 |.ro p=>∀ a F' H',aU F F'->RB C.toCf F' H'->Own K F' H' a p->F' a=none->C.H0 a=none->D.rt (.ref a) H'
 |.rd p=>∀ v F' H' S,aU F F'->RB C.toCf F' H'->Dp K F' H' S v p->(∀ b,S b->F' b=none/\(∃ o,H' b=some o/\∀ ys,o≠.tup ys)/\C.H0 b=none)->D.rt v H'
 |.ex z=>PX C F z
def MS(K:Frag)(C:Cg)(t:TS)(f:Sn):Prop:=∀ F H O Z D o,RE K C.toCf F H O Z->f Z=some o->PO' K C F D o->t D O H
def fZ{α:Type}(x:Option (Res α))(k:α->Option Out):Option Out:=match x with
 |some (.ok a)=>k a
 |some (.ex z)=>some (.ex z)
 |none=>none
theorem UV{α:Type}{a:α}{k:α->Option Out}:fZ (some (.ok a)) k=k a:=rfl
theorem cQ{α:Type}{x:Option (Res α)}{k:α->Option Out}{o:Out}(h:fZ x k=some o):(∃ z,x=some (.ex z)/\o=.ex z)\/∃ a,x=some (.ok a)/\k a=some o:=by
 match x,h with
 |some (.ok a),h=>exact .inr ⟨a,rfl,h⟩
 |some (.ex z),h=>exact .inl ⟨z,rfl,(Zaf h).symm⟩
section
variable{K:Frag}{C:Cg}{α:Type}{A:Rel α}{ta te:TE}{F H:Hp}{O:St}{Z:Rho}{D:Ends}{t u:TS}{f g:Sn}{o:Out}
theorem PO'.up{F1:Hp}(h:PO' K C F D o)(s:aU F F1):PO' K C F1 D o:=by
 cases o with
 |nx Z=>exact λF' H' O a=>h F' H' O (s.trans a)
 |bk Z=>exact λF' H' O a=>h F' H' O (s.trans a)
 |ct Z=>exact λF' H' O a=>h F' H' O (s.trans a)
 |rt p=>exact λv F' H' a=>h v F' H' (s.trans a)
 |ro p=>exact λv F' H' a=>h v F' H' (s.trans a)
 |rd p=>exact λv F' H' S a=>h v F' H' S (s.trans a)
 |ex z=>exact PX.up h s
theorem MJ.um{fe:Fn α}{Q:VK}{k:α->Option Out}(h:MJ K C A ta fe)(R:RE K C.toCf F H O Z)(hb:fZ (fe Z) k=some o)(P:PO' K C F D o)
  (go:∀ p v F1 H1,k p=some o->Up F H F1 H1->A F1 H1 v p->Q v H1):ta O H Q:=by
 rcases cQ hb with⟨z,e,rfl⟩|⟨p,e,hk⟩
 ·exact h F H O Z Q _ R e P
 ·exact h F H O Z Q _ R e λv F1 H1 u a=>go p v F1 H1 hk u a
theorem MO.um{fe:Fn PV}{Q:VK}{k:PV->Option Out}(h:MO K C ta fe)(R:RE K C.toCf F H O Z)(hb:fZ (fe Z) k=some o)(P:PO' K C F D o)
  (go:∀ p a F1 H1,k p=some o->Up F H F1 H1->H a=none->F1 a=none->Own K F1 H1 a p->Q (.ref a) H1):ta O H Q:=by
 rcases cQ hb with⟨z,e,rfl⟩|⟨p,e,hk⟩
 ·exact h F H O Z Q _ R e P
 ·exact h F H O Z Q _ R e λa F1 H1 u n1 n2 w=>go p a F1 H1 hk u n1 n2 w
theorem MT.um{tt:TT}{fe:Fn Bool}{Q:Bool->Hp->Prop}{k:Bool->Option Out}(h:MT K C tt fe)(R:RE K C.toCf F H O Z)(hb:fZ (fe Z) k=some o)(P:PO' K C F D o)
  (go:∀ b F1 H1,k b=some o->Up F H F1 H1->Q b H1):tt O H Q:=by
 rcases cQ hb with⟨z,e,rfl⟩|⟨p,e,hk⟩
 ·exact h F H O Z Q _ R e P
 ·exact h F H O Z Q _ R e λF1 H1 u=>go p F1 H1 hk u
def gh:Sn:=λZ=>some (.nx Z)
def aY(f g:Sn):Sn:=λZ=>match f Z with
 |some (.nx Z')=>g Z'
 |x=>x
theorem cW:MS K C VR gh:=λF H O Z D o R e P=>by
 cases e;exact P F H O (aU.refl _) R
theorem aM(h1:MS K C t f)(h2:MS K C u g):MS K C (WT t u) (aY f g):=by
 intro F H O Z D o R e P;unfold aY at e;split at e
 ·rename_i Z' h;refine h1 F H O Z _ _ R h ?_;exact λF' H' O' s R'=>h2 F' H' O' Z' D o R' e (P.up s)
 ·rename_i x hx;cases o with
  |nx Z'=>exact absurd e (hx Z')
  |bk Z=>exact h1 F H O _ _ _ R e P
  |ct Z=>exact h1 F H O _ _ _ R e P
  |rt p=>exact h1 F H O _ _ _ R e P
  |ro p=>exact h1 F H O _ _ _ R e P
  |rd p=>exact h1 F H O _ _ _ R e P
  |ex z=>exact h1 F H O _ _ _ R e P
def MF:Sn:=λZ=>some (.ct Z)
theorem MK:MS K C V0 MF:=λF H O Z D o R e P=>by
 cases e;exact P F H O (aU.refl _) R
def MG(K:Frag)(C:Cg)(g:TG)(tg:PV->Rho->Option Rho):Prop:=
 ∀ F H O Z v p Z' Q,RE K C.toCf F H O Z->Rep K F v p->tg p Z=some Z'->(∀ O',RE K C.toCf F H O' Z'->Q O' H)->g v O H Q
def MGs(K:Frag)(C:Cg)(g:TGs)(tg:List PV->Rho->Option Rho):Prop:=
 ∀ F H O Z vs ps Z' Q,RE K C.toCf F H O Z->bG K F vs ps->tg ps Z=some Z'->(∀ O',RE K C.toCf F H O' Z'->Q O' H)->g vs O H Q
def gN(i:Nat):PV->Rho->Option Rho:=λp Z=>some (Z.set i (some (.sh p)))
theorem aL(i:Nat):MG K C (yo i) (gN i):=λF H O Z v p Z' Q R r e k=>by
 cases e;exact k _ (R.set i r)
def gsNil:List PV->Rho->Option Rho
 |[],Z=>some Z
 |_::_,_=>none
def gsCons(t:PV->Rho->Option Rho)(u:List PV->Rho->Option Rho):List PV->Rho->Option Rho
 |[],_=>none
 |p::l,Z=>match t p Z with
  |some Z'=>u l Z'
  |none=>none
theorem o9:MGs K C QD gsNil:=λF H O Z vs ps Z' Q R r e k=>by
 cases ps with
 |nil=>cases e;exact⟨r.jd,k O R⟩
 |cons p l=>cases e
theorem dW{g:TG}{gs:TGs}{tg:PV->Rho->Option Rho}{tgs:List PV->Rho->Option Rho}(h:MG K C g tg)(hs:MGs K C gs tgs):MGs K C (V1 g gs) (gsCons tg tgs):=λF H O Z vs ps Z' Q R r e k=>by
 cases ps with
 |nil=>cases e
 |cons p l=>
  obtain⟨v,ys,rfl,r1,r2⟩:=r.dw;have e':(match tg p Z with
   |some Z'=>tgs l Z'
   |none=>none)=some Z':=e
  split at e'
  ·rename_i Z1 h1;exact⟨v,ys,rfl,h F H O Z v p Z1 _ R r1 h1 λO' R'=>hs F H O' Z1 ys l Z' Q R' r2 e' k⟩
  ·cases e'
def gT(n:Nat)(t:List PV->Rho->Option Rho):PV->Rho->Option Rho:=λp Z=>match p with
 |.tup l=>if l.length=n then t l Z else none
 |_=>none
theorem uo{n:Nat}{gs:TGs}{tgs:List PV->Rho->Option Rho}(hs:MGs K C gs tgs):MG K C (WW K n gs) (gT n tgs):=λF H O Z v p Z' Q R r e k=>by
 unfold gT at e;split at e
 ·rename_i l;split at e
  ·rename_i hn;obtain⟨a,xs,rfl,hq,rr⟩:=r.cV;exact⟨a,xs,rfl,R.rb.sub.tup hq,by rw[rr.1];exact hn,hs F H O Z xs l Z' Q R rr e k⟩
  ·cases e
 ·cases e
def cu(fe:Fn PV)(tg:PV->Rho->Option Rho):Sn:=λZ=>fZ (fe Z) λp=>match tg p Z with
 |some Z'=>some (.nx Z')
 |none=>none
theorem bh{fe:Fn PV}{gt:TG}{tg:PV->Rho->Option Rho}(h:MJ K C (aF K) te fe)(hg:MG K C gt tg):MS K C (Ou te gt) (cu fe tg):=by
 intro F H O Z D o R e P;refine h.um R e P λp v F1 H1 hk u a=>?_;split at hk
 ·rename_i Z' h1;cases hk;exact hg F1 H1 O Z v p Z' _ (R.up u) a h1 λO' R'=>P F1 H1 O' u.ff R'
 ·cases hk
def jg(i:Nat)(fe:Fn PV):Sn:=λZ=>fZ (fe Z) λp=>some (.nx (Z.set i (some (.ow p))))
theorem eG{i:Nat}{fe:Fn PV}(nw:C.nw)(h:MO K C te fe):MS K C (Ou te (yo i)) (jg i fe):=by
 intro F H O Z D o R e P;refine h.um R e P λp a F1 H1 hk u n1 n2 w=>?_;cases hk;exact P F1 H1 _ u.ff ((R.up u).ZK i w n2 nw (R.rb.vz n1) (λj q hj _=>R.apart n1 j q hj) (R.Xl n1 u))
def gj(fe:Fn PV):Sn:=λZ=>fZ (fe Z) λp=>some (.rt p)
theorem cG{fe:Fn PV}(h:MJ K C (aF K) te fe):MS K C (Ot te) (gj fe):=by
 intro F H O Z D o R e P;refine h.um R e P λp v F1 H1 hk u a=>?_;cases hk;exact P v F1 H1 u.ff (R.rb.up u) a
def vB(fe:Fn PV):Sn:=λZ=>fZ (fe Z) λp=>some (.ro p)
theorem rF{fe:Fn PV}(h:MO K C te fe):MS K C (Ot te) (vB fe):=by
 intro F H O Z D o R e P;refine h.um R e P λp a F1 H1 hk u n1 n2 w=>?_;cases hk;exact P a F1 H1 u.ff (R.rb.up u) w n2 (R.rb.vz n1)
def ownAt(i:Nat)(Z:Rho):Option PV:=match Z[i]? with
 |some (some (.ow p))=>some p
 |_=>none
theorem bJ{i:Nat}{p:PV}(h:ownAt i Z=some p):Z[i]?=some (some (.ow p)):=by
 unfold ownAt at h;split at h
 ·rename_i q hq;cases h;exact hq
 ·cases h
def lY(i:Nat):Sn:=λZ=>match ownAt i Z with
 |some p=>some (.ro p)
 |none=>none
theorem ou(i:Nat)(hio:∀ a,¬C.io a):MS K C (Ot (lJ i)) (lY i):=by
 intro F H O Z D o R e P;unfold lY at e;split at e
 ·rename_i p hp;cases e;obtain⟨a,e1,e2,e3,e4⟩:=R.ow i p (bJ hp);exact⟨_,e1,P a F H (aU.refl _) R.rb e2 e3 (e4.resolve_left (hio a)).2⟩
 ·cases e
def Fq(i:Nat)(fe:Fn PV):Sn:=λZ=>match ownAt i Z with
 |some (.lst l)=>fZ (fe Z) λp=>if l.length<sizeLine then some (.nx (Z.set i (some (.ow (.lst (l++[p])))))) else none
 |_=>none
theorem Ft{i:Nat}{fe:Fn PV}(h:MJ K C (aF K) te fe):MS K C (zB (tBM K "list" u5 (lJ i) (kO te xx))) (Fq i fe):=by
 intro F H O Z D o R e P;unfold Fq at e;split at e
 ·rename_i l hl;obtain⟨a,g1,⟨xs,g2,g3⟩,g4,g5⟩:=R.ow i _ (bJ hl);refine⟨_,g1,tyL g2,h.um R e P λp v F1 H1 hk u w=>?_⟩;split at hk
  ·rename_i hlen;cases hk;obtain⟨a',k1,⟨ys,k2,k3⟩,k4,k5⟩:=(R.up u).ow i _ (bJ hl);rw[g1] at k1;cases k1;refine⟨a,ys,v,rfl,rfl,k2,by rw[k3.1];exact hlen,?_⟩
   exact P F1 _ O u.ff ((R.up u).write (bJ hl) g1 ⟨_,aN,k3.snoc w⟩)
  ·cases hk
 ·cases e
def j9(fc:Fn Bool)(f g:Sn):Sn:=λZ=>fZ (fc Z) λb=>if b=true then f Z else g Z
theorem gO{c:TT}{fc:Fn Bool}(hc:MT K C c fc)(h1:MS K C t f)(h2:MS K C u g):MS K C (Yv c t u) (j9 fc f g):=by
 intro F H O Z D o R e P;refine hc.um R e P λb F1 H1 hk uu=>?_;cases b with
 |true=>rw[Zam rfl] at hk ⊢;exact h1 F1 H1 O Z D o (R.up uu) hk (P.up uu.ff)
 |false=>rw[Zal (by decide)] at hk ⊢;exact h2 F1 H1 O Z D o (R.up uu) hk (P.up uu.ff)
structure ItR(K:Frag)(J:It)(F:Hp)(l:List PV):Prop where
 stop:∀ F' H',aU F F'->aU F' H'->J.stop l.length H'
 go:∀ i F' H',i<l.length->aU F F'->aU F' H'->J.go i H'
 yld:∀ i F' H' x H'',i<l.length->aU F F'->aU F' H'->J.yld i H' x H''->∃ F'' p,Up F' H' F'' H''/\l[i]?=some p/\Rep K F'' x p
def MI(K:Frag)(C:Cg)(wi:TI)(f:Fn (List PV)):Prop:=
 ∀ F H O Z R' r,RE K C.toCf F H O Z->f Z=some r->Pr C F (λl=>∀ J F' H',Up F H F' H'->ItR K J F' l->R' J H') r->wi O H R'
def loop(tg:PV->Rho->Option Rho)(body:Sn):List PV->Rho->Option Out
 |[],Z=>some (.nx Z)
 |x::xs,Z=>match tg x Z with
  |none=>none
  |some Z1=>match body Z1 with
   |some (.nx Z2)=>loop tg body xs Z2
   |some (.ct Z2)=>loop tg body xs Z2
   |some (.bk Z2)=>some (.nx Z2)
   |x=>x
def oA(it:Fn (List PV))(tg:PV->Rho->Option Rho)(body:Sn):Sn:=λZ=>fZ (it Z) λl=>loop tg body l Z
theorem Dy{J:It}{gt:TG}{tg:PV->Rho->Option Rho}{l:List PV}(hg:MG K C gt tg)(hb:MS K C t f)(hJ:ItR K J F l)(R:RE K C.toCf F H O Z)(e:loop tg f l Z=some o)(P:PO' K C F D o):ZG J gt t D O H:=by
 refine⟨λi m O' H'=>∃ F' Z',m=l.length-i/\i<=l.length/\aU F F'/\RE K C.toCf F' H' O' Z'/\loop tg f (l.drop i) Z'=some o,⟨l.length,F,Z,by simp,Za4 _,aU.refl _,R,by rw[ZcN];exact e⟩,?_⟩
 rintro i m O' H' ⟨F',Z',rfl,hi,s,R',e'⟩;by_cases hlt:i<l.length
 ·refine .inr ⟨hJ.go i F' H' hlt s R'.rb.sub,λσ2 H2=>∃ F2 Z2,aU F F2/\RE K C.toCf F2 H2 σ2 Z2/\loop tg f (l.drop (i+1)) Z2=some o,λσ2 H2 ⟨F2,Z2,s2,R2,e2⟩=>⟨l.length-(i+1),by omega,F2,Z2,rfl,hlt,s2,R2,e2⟩,λx H'' y=>?_⟩
  obtain⟨F'',p,u,ep,rx⟩:=hJ.yld i F' H' x H'' hlt s R'.rb.sub y;have ed:l.drop i=p::l.drop (i+1):=by
   rw[ZbS hlt];rw[Zae hlt] at ep;rw[Zaf ep]
  rw[ed,loop] at e';split at e'
  ·cases e'
  ·rename_i Z1 h1;refine hg F'' H'' O' Z' x p Z1 _ (R'.up u) rx h1 λσ1 R1=>?_;have sF:aU F F'':=s.trans u.ff;split at e'
   ·rename_i Z2 h2;exact hb F'' H'' σ1 Z1 _ _ R1 h2 λF3 H3 σ3 s3 R3=>⟨F3,Z2,sF.trans s3,R3,e'⟩
   ·rename_i Z2 h2;exact hb F'' H'' σ1 Z1 _ _ R1 h2 λF3 H3 σ3 s3 R3=>⟨F3,Z2,sF.trans s3,R3,e'⟩
   ·rename_i Z2 h2;cases e';exact hb F'' H'' σ1 Z1 _ _ R1 h2 λF3 H3 σ3 s3 R3=>P F3 H3 σ3 (sF.trans s3) R3
   ·rename_i n1 n2 n3;cases o with
    |nx Z2=>exact absurd e' (n1 Z2)
    |ct Z2=>exact absurd e' (n2 Z2)
    |bk Z2=>exact absurd e' (n3 Z2)
    |rt p=>exact hb F'' H'' σ1 Z1 _ _ R1 e' (PO'.up (D:=D) P sF)
    |ro p=>exact hb F'' H'' σ1 Z1 _ _ R1 e' (PO'.up (D:=D) P sF)
    |rd p=>exact hb F'' H'' σ1 Z1 _ _ R1 e' (PO'.up (D:=D) P sF)
    |ex z=>exact hb F'' H'' σ1 Z1 _ _ R1 e' (PX.up P sF)
 ·have ei:i=l.length:=by omega
  subst ei;rw[ZcX] at e';cases e';exact .inl ⟨hJ.stop F' H' s R'.rb.sub,P F' H' O' s R'⟩
theorem iD{wi:TI}{it:Fn (List PV)}{gt:TG}{tg:PV->Rho->Option Rho}(hi:MI K C wi it)(hg:MG K C gt tg)(hb:MS K C t f):MS K C (WX wi gt t) (oA it tg f):=by
 intro F H O Z D o R e P;rcases cQ e with⟨z,e1,rfl⟩|⟨l,e1,hk⟩
 ·exact hi F H O Z _ _ R e1 P
 ·exact hi F H O Z _ _ R e1 λJ F' H' u hJ=>Dy hg hb hJ (R.up u) hk (P.up u.ff)
def kW(fc:Fn Bool)(body:Sn):Nat->Rho->Option Out
 |0,_=>none
 |n+1,Z=>fZ (fc Z) λb=>if b=true then(match body Z with
   |some (.nx Z2)=>kW fc body n Z2
   |some (.ct Z2)=>kW fc body n Z2
   |some (.bk Z2)=>some (.nx Z2)
   |x=>x) else some (.nx Z)
theorem zT{c:TT}{fc:Fn Bool}(n:Nat)(hc:MT K C c fc)(hb:MS K C t f):MS K C (Ks c t) (kW fc f n):=by
 intro F H O Z D o R e P;refine⟨λm O' H'=>∃ F' Z',aU F F'/\RE K C.toCf F' H' O' Z'/\kW fc f m Z'=some o,⟨n,F,Z,aU.refl _,R,e⟩,?_⟩;rintro m O' H' ⟨F',Z',s,R',e'⟩;cases m with
 |zero=>cases e'
 |succ m=>
  refine hc.um R' e' (P.up s) λb F1 H1 hk u=>?_;have sF:aU F F1:=s.trans u.ff;have R1:=R'.up u;cases b with
  |false=>
   rw[Zal (by decide)] at hk ⊢
   cases hk;exact P F1 H1 O' sF R1
  |true=>
   rw[Zam rfl] at hk ⊢;refine⟨λσ2 H2=>∃ F2 Z2,aU F F2/\RE K C.toCf F2 H2 σ2 Z2/\kW fc f m Z2=some o,λσ2 H2 ⟨F2,Z2,s2,R2,e2⟩=>⟨m,Zcz _,F2,Z2,s2,R2,e2⟩,?_⟩;split at hk
   ·rename_i Z2 h2;exact hb F1 H1 O' Z' _ _ R1 h2 λF3 H3 σ3 s3 R3=>⟨F3,Z2,sF.trans s3,R3,hk⟩
   ·rename_i Z2 h2;exact hb F1 H1 O' Z' _ _ R1 h2 λF3 H3 σ3 s3 R3=>⟨F3,Z2,sF.trans s3,R3,hk⟩
   ·rename_i Z2 h2;cases hk;exact hb F1 H1 O' Z' _ _ R1 h2 λF3 H3 σ3 s3 R3=>P F3 H3 σ3 (sF.trans s3) R3
   ·rename_i n1 n2 n3;cases o with
    |nx Z2=>exact absurd hk (n1 Z2)
    |ct Z2=>exact absurd hk (n2 Z2)
    |bk Z2=>exact absurd hk (n3 Z2)
    |rt p=>exact hb F1 H1 O' Z' _ _ R1 hk (PO'.up (D:=D) P sF)
    |ro p=>exact hb F1 H1 O' Z' _ _ R1 hk (PO'.up (D:=D) P sF)
    |rd p=>exact hb F1 H1 O' Z' _ _ R1 hk (PO'.up (D:=D) P sF)
    |ex z=>exact hb F1 H1 O' Z' _ _ R1 hk (PX.up P sF)
end
def eqL(f:PV->PV->Option Bool):List PV->List PV->Option Bool
 |[],[]=>some true
 |[],_::_=>some false
 |_::_,[]=>some false
 |x::xs,y::ys=>match f x y,eqL f xs ys with
  |some a,some b=>some (a&&b)
  |_,_=>none
def eqF:Nat->PV->PV->Option Bool
 |_,.non,.non=>some true
 |_,.non,.bl _=>some false
 |_,.non,.int _=>some false
 |_,.non,.str _=>some false
 |_,.bl _,.non=>some false
 |_,.bl a,.bl b=>some (decide (a=b))
 |_,.bl _,.str _=>some false
 |_,.int _,.non=>some false
 |_,.int a,.int b=>some (decide (a=b))
 |_,.int _,.str _=>some false
 |_,.str _,.non=>some false
 |_,.str _,.bl _=>some false
 |_,.str _,.int _=>some false
 |_,.str a,.str b=>some (decide (a=b))
 |_,.non,.tup _=>some false
 |_,.tup _,.non=>some false
 |_,.non,.lst _=>some false
 |_,.lst _,.non=>some false
 |_,.int _,.tup _=>some false
 |_,.tup _,.int _=>some false
 |_,.str _,.tup _=>some false
 |_,.tup _,.str _=>some false
 |_,.int _,.lst _=>some false
 |_,.lst _,.int _=>some false
 |_,.str _,.lst _=>some false
 |_,.lst _,.str _=>some false
 |_,.lst _,.tup _=>some false
 |_,.tup _,.lst _=>some false
 |n+1,.tup l,.tup m=>eqL (eqF n) l m
 |n+1,.lst l,.lst m=>if l.length=m.length then eqL (eqF n) l m else some false
 |_,_,_=>none
theorem qw{f:PV->PV->Option Bool}(h:∀ p r,f p p=some r->r=true):∀ {l:List PV}{r:Bool},eqL f l l=some r->r=true
 |[],r,e=>by cases e;rfl
 |x::xs,r,e=>by
  rw[eqL] at e;split at e
  ·rename_i a b h1 h2;cases e;rw[h x a h1,qw h h2];rfl
  ·cases e
theorem HS:∀ (n:Nat) (p:PV) (r:Bool),eqF n p p=some r->r=true
 |n,p,r,e=>by
  induction n generalizing p r with
  |zero=>cases p<;>first|(cases (show some true=some r from e);rfl)|(cases (show some (decide _)=some r from e);exact ZaF rfl)|cases (show none=some r from e)
  |succ n ih=>
   cases p with
   |tup l=>exact qw ih e
   |lst l=>
    have e:(if l.length=l.length then eqL (eqF n) l l else some false)=some r:=e;rw[Zam rfl] at e;exact qw ih e
   |_=>first|(cases (show some true=some r from e);rfl)|(cases (show some (decide _)=some r from e);exact ZaF rfl)|cases (show none=some r from e)
theorem Fv{f:PV->PV->Option Bool}:∀ {l m:List PV}{r:Bool},eqL f l m=some r->∃ e:Nat->Bool,(∀ (j:Nat) x y,l[j]?=some x->m[j]?=some y->f x y=some (e j))/\r=((List.range (min l.length m.length)).all e&&l.length==m.length)
 |[],[],r,h=>⟨λ_=>true,λj x y a=>by simp at a,by cases h;rfl⟩
 |[],_::_,r,h=>⟨λ_=>true,λj x y a=>by simp at a,by cases h;simp⟩
 |_::_,[],r,h=>⟨λ_=>true,λj x y _ a=>by simp at a,by cases h;simp⟩
 |x::xs,y::ys,r,h=>by
  rw[eqL] at h;split at h
  ·rename_i a b h1 h2;cases h;obtain⟨e,e1,e2⟩:=Fv h2;refine⟨λj=>match j with|0=>a|j+1=>e j,λj x' y' a' b'=>?_,?_⟩
   ·cases j with
    |zero=>simp at a' b';subst a' b';exact h1
    |succ j=>exact e1 j x' y' (by simpa using a') (by simpa using b')
   ·rw[e2,ZaP,ZaP,Nat.succ_min_succ,List.range_succ_eq_map,List.all_cons,List.all_map];have:((xs.length+1==ys.length+1):Bool)=(xs.length==ys.length):=by
     rw[Zco];simp
    rw[this];cases a<;>simp[Function.comp_def]
  ·cases h
section
variable{X:Cx}{pins:List (Addr×Obj)}{O:St}{H:Hp}{s:Shared}
theorem Rep.kinds(I:Inv X pins O H s){a:Addr}{xs ys:List V}(h1:SqL X.K H a xs)(h2:SqT X.K H a ys):False:=by
 obtain⟨_,_,p1,_⟩:=I.list h1;obtain⟨_,_,p2,_⟩:=I.tuple h2;obtain⟨o,n,e,c,_⟩:=p1;obtain⟨o',e',c',_⟩:=p2;rw[e] at e';cases e';rw[c] at c';exact absurd c' (by decide)
theorem HW{xs:List V}{l m:List PV}(h1:xs.length=l.length)(h2:xs.length=m.length)(h:∀ (j:Nat) x p q,xs[j]?=some x->l[j]?=some p->m[j]?=some q->p=q):l=m:=by
 apply ZbG
 intro j;by_cases hj:j<xs.length
 ·have hl:j<l.length:=by lia
  have hm:j<m.length:=by lia
  rw[Zae hl,Zae hm,h j xs[j] l[j] m[j] (by simp[hj]) (by simp[hl]) (by simp[hm])]
 ·rw[ZaQ (by lia),ZaQ (by lia)]
def HO.isDict:HO->Bool
 |.dK _=>true
 |.dT _=>true
 |_=>false
theorem UW{H:Hp}{a:Addr}{u v:HO}(hu:HO.isDict u=true)(hv:HO.isDict v=true)(h:Rd H a u)(h':Rd H a v):u=v:=by
 rcases h with h|⟨o,h⟩<;>rcases h' with h'|⟨o',h'⟩<;>rw[h] at h'<;>cases h'
 ·rfl
 ·cases hu
 ·cases hv
 ·rfl
theorem Fw{H:Hp}{a:Addr}{u v:HO}(h:Rd H a u)(h':Rd H a v)(hu:HO.isDict u=true:=by rfl)(hv:HO.isDict v=true:=by rfl):u=v:=UW hu hv h h'
theorem Rep.noDict(I:Inv X pins O H s){a:Addr}{ks:List (Key×V)}{ts:List (List Key×V)}(h1:Rd H a (.dK ks)\/Rd H a (.dT ts))(h2:(∃ xs,SqL X.K H a xs)\/∃ xs,SqT X.K H a xs):False:=by
 have d:∃ o es ep,s.heap.get? a=some o/\o.data=.dict es ep:=by
  rcases h1 with h1|h1
  ·obtain⟨_,_,_,_,o,es,ep,e,x,d,_⟩:=h1.ok I.hok;exact⟨o,es,ep,e,d⟩
  ·obtain⟨_,_,_,_,o,es,ep,e,x,d,_⟩:=h1.ok I.hok;exact⟨o,es,ep,e,d⟩
 obtain⟨o,es,ep,e,d⟩:=d;rcases h2 with⟨xs,h2⟩|⟨xs,h2⟩
 ·obtain⟨_,_,p1,_⟩:=I.list h2;obtain⟨o',n,e',_,_,d'⟩:=p1;rw[e] at e';cases e';rw[d] at d';cases d'
 ·obtain⟨_,_,p1,_⟩:=I.tuple h2;obtain⟨o',e',_,n,d'⟩:=p1;rw[e] at e';cases e';rw[d] at d';cases d'
theorem XO.at(I:Inv X pins O H s){a C:Addr}{d:Option Addr}(h:H a=some (XO a C d)):∃ vs:Array Value,s.heap.get? a=some { cls:=.ref C,dict:=d,data:=.fields vs }:=(I.hok _ _ h).1
theorem XO.inj(I:Inv X pins O H s){a C C':Addr}{d d':Option Addr}(h:H a=some (XO a C d))(h':H a=some (XO a C' d')):C=C'/\d=d':=by
 obtain⟨vs,e⟩:=XO.at I h;obtain⟨vs',e'⟩:=XO.at I h';rw[e] at e';cases e';exact⟨rfl,rfl⟩
theorem XO.noSeq(I:Inv X pins O H s){a C:Addr}{d:Option Addr}(h:H a=some (XO a C d))(h2:(∃ xs,SqL X.K H a xs)\/∃ xs,SqT X.K H a xs):False:=by
 obtain⟨vs,e⟩:=XO.at I h;rcases h2 with⟨xs,h2⟩|⟨xs,h2⟩
 ·obtain⟨_,_,p1,_⟩:=I.list h2;obtain⟨o',n,e',_,_,d'⟩:=p1;rw[e] at e';cases e';cases d'
 ·obtain⟨_,_,p1,_⟩:=I.tuple h2;obtain⟨o',e',_,n,d'⟩:=p1;rw[e] at e';cases e';cases d'
theorem XNm.inj{K:Frag}{C:Addr}{c c':Str}(a:XNm K C c)(b:XNm K C c'):c=c':=by
 obtain⟨cd,h1,h2⟩:=a.cl;obtain⟨cd',h1',h2'⟩:=b.cl;rw[h1] at h1';cases h1';exact h2.symm.trans h2'
theorem Rep.inj(I:Inv X pins O H s){x:V}{p:PV}(h:Rep X.K H x p):∀ {q:PV},Rep X.K H x q->p=q:=by
 have pairs:∀ {κ:Type}{xs:List (κ×V)}{l m:List (κ×PV)},xs.map (·.1)=l.map (·.1)->xs.map (·.1)=m.map (·.1)->(∀ (j:Nat) x p q,xs[j]?=some x->l[j]?=some p->m[j]?=some q->p.2=q.2)->l=m:=by
  intro κ xs l m h1 h2 h3;have l1:xs.length=l.length:=by simpa using ZaY List.length h1
  have l2:xs.length=m.length:=by simpa using ZaY List.length h2
  apply ZbG
  intro j;by_cases hj:j<xs.length
  ·have hl:j<l.length:=by lia
   have hm:j<m.length:=by lia
   rw[Zae hl,Zae hm];have k:=ZaY (·[j]?) (h1.symm.trans h2);simp[hl,hm] at k;have v:=h3 j xs[j] l[j] m[j] (by simp[hj]) (by simp[hl]) (by simp[hm])
   rw[Zc5 k v]
  ·rw[ZaQ (by lia),ZaQ (by lia)]
 induction h with
 |non=>intro q h';cases h';rfl
 |bl=>intro q h';cases h';rfl
 |int=>intro q h';cases h';rfl
 |str=>intro q h';cases h';rfl
 |ty=>intro q h';cases h';rfl
 |@tup a xs l h hl _ ih=>
  intro q h';have h:=SqT.of (K:=X.K) h;cases h' with
  |tup h2 hl2 hr2=>
   cases I.Di h (SqT.of (K:=X.K) h2);rw[HW hl hl2 λj x p q e1 e2 e3=>ih j x p e1 e2 (hr2 j x q e1 e3)]
  |lst h2=>exact(Rep.kinds I h2 h).elim
  |dk h2=>exact(Rep.noDict I (ts:=[]) (.inl h2) (.inr ⟨_,h⟩)).elim
  |dt h2=>exact(Rep.noDict I (ks:=[]) (.inr h2) (.inr ⟨_,h⟩)).elim
  |exc _ h2=>exact(XO.noSeq I h2 (.inr ⟨_,h⟩)).elim
  |exc0 _ h2=>exact(XO.noSeq I h2 (.inr ⟨_,h⟩)).elim
 |@lst a xs l h hl _ ih=>
  intro q h';cases h' with
  |tup h2=>exact(Rep.kinds I h (SqT.of h2)).elim
  |lst h2 hl2 hr2=>
   cases I.qi h h2;rw[HW hl hl2 λj x p q e1 e2 e3=>ih j x p e1 e2 (hr2 j x q e1 e3)]
  |dk h2=>exact(Rep.noDict I (ts:=[]) (.inl h2) (.inl ⟨_,h⟩)).elim
  |dt h2=>exact(Rep.noDict I (ks:=[]) (.inr h2) (.inl ⟨_,h⟩)).elim
  |exc _ h2=>exact(XO.noSeq I h2 (.inl ⟨_,h⟩)).elim
  |exc0 _ h2=>exact(XO.noSeq I h2 (.inl ⟨_,h⟩)).elim
 |@dk a xs l h hl _ ih=>
  intro q h';cases h' with
  |tup h2=>exact(Rep.noDict I (ts:=[]) (.inl h) (.inr ⟨_,SqT.of h2⟩)).elim
  |lst h2=>exact(Rep.noDict I (ts:=[]) (.inl h) (.inl ⟨_,h2⟩)).elim
  |dk h2 hl2 hr2=>
   cases (Fw h h2);rw[pairs hl hl2 λj x p q e1 e2 e3=>ih j x p e1 e2 (hr2 j x q e1 e3)]
  |dt h2=>cases Fw h h2
  |exc _ h2=>rcases h with h|⟨o,h⟩<;>rw[h] at h2<;>cases h2
  |exc0 _ h2=>rcases h with h|⟨o,h⟩<;>rw[h] at h2<;>cases h2
 |@dt a xs l h hl _ ih=>
  intro q h';cases h' with
  |tup h2=>exact(Rep.noDict I (ks:=[]) (.inr h) (.inr ⟨_,SqT.of h2⟩)).elim
  |lst h2=>exact(Rep.noDict I (ks:=[]) (.inr h) (.inl ⟨_,h2⟩)).elim
  |dk h2=>cases Fw h h2
  |dt h2 hl2 hr2=>
   cases (Fw h h2);rw[pairs hl hl2 λj x p q e1 e2 e3=>ih j x p e1 e2 (hr2 j x q e1 e3)]
  |exc _ h2=>rcases h with h|⟨o,h⟩<;>rw[h] at h2<;>cases h2
  |exc0 _ h2=>rcases h with h|⟨o,h⟩<;>rw[h] at h2<;>cases h2
 |@exc a C dx c xs l nm h hd hl _ ih=>
  intro q h';cases h' with
  |tup h2=>exact(XO.noSeq I h (.inr ⟨_,SqT.of h2⟩)).elim
  |lst h2=>exact(XO.noSeq I h (.inl ⟨_,h2⟩)).elim
  |dk h2=>rcases h2 with h2|⟨o,h2⟩<;>rw[h] at h2<;>cases h2
  |dt h2=>rcases h2 with h2|⟨o,h2⟩<;>rw[h] at h2<;>cases h2
  |exc nm2 h2 hd2 hl2 hr2=>
   obtain⟨rfl,e⟩:=XO.inj I h h2;cases e;rw[hd] at hd2;cases hd2;cases XNm.inj nm nm2;rw[pairs hl hl2 λj x p q e1 e2 e3=>ih j x p e1 e2 (hr2 j x q e1 e3)]
  |exc0 nm2 h2=>cases (XO.inj I h h2).2
 |@exc0 a C c nm h=>
  intro q h';cases h' with
  |tup h2=>exact(XO.noSeq I h (.inr ⟨_,SqT.of h2⟩)).elim
  |lst h2=>exact(XO.noSeq I h (.inl ⟨_,h2⟩)).elim
  |dk h2=>rcases h2 with h2|⟨o,h2⟩<;>rw[h] at h2<;>cases h2
  |dt h2=>rcases h2 with h2|⟨o,h2⟩<;>rw[h] at h2<;>cases h2
  |exc nm2 h2=>cases (XO.inj I h h2).2
  |exc0 nm2 h2=>
   obtain⟨rfl,_⟩:=XO.inj I h h2;cases XNm.inj nm nm2;rfl
theorem Rj(I:Inv X pins O H s):∀ {A:Around}{x y:V}{p q:PV}{r:Bool}{u v:Value},A.units<cLine->eqF 0 p q=some r->Rep X.K H x p->Rep X.K H y q->RelV x u->RelV y v ->
  SeqAt.RcAt A s u v r/\SeqAt.EqAt A s u v r/\SeqAt.RcNeAt A s u v (!r):=by
 intro A x y p q r u v hu e rx ry ru rv;have hu0:A.units<cLine:=hu
 match p,q,e with
 |.non,.non,e=>
  have e:=Zaf e;subst e;cases Rep.fL rx;cases Rep.fL ry;cases ru;cases rv;exact⟨SeqAt.RcAt.none_none,SeqAt.EqAt.same _,SeqAt.RcNeAt.none_none⟩
 |.non,.bl b,e=>
  have e:=Zaf e;subst e;cases Rep.fL rx;cases Rep.je ry;cases ru;cases rv;exact⟨SeqAt.RcAt.none_bool _,SeqAt.EqAt.none_bool _,SeqAt.RcNeAt.none_bool _⟩
 |.non,.int b,e=>
  have e:=Zaf e;subst e;cases Rep.fL rx;cases Rep.bC ry;cases ru;obtain⟨tb,rfl⟩:=rv;exact⟨SeqAt.RcAt.none_int _ _,SeqAt.EqAt.none_int _ _,SeqAt.RcNeAt.none_int _ _⟩
 |.non,.str b,e=>
  have e:=Zaf e;subst e;cases Rep.fL rx;cases Rep.cB ry;cases ru;obtain⟨tb,rfl⟩:=rv;exact⟨SeqAt.RcAt.none_str _ _,SeqAt.EqAt.none_str _ _,SeqAt.RcNeAt.none_str _ _⟩
 |.bl a,.non,e=>
  have e:=Zaf e;subst e;cases Rep.je rx;cases Rep.fL ry;cases ru;cases rv;exact⟨SeqAt.RcAt.bool_none _,SeqAt.EqAt.bool_none _,SeqAt.RcNeAt.bool_none _⟩
 |.bl a,.bl b,e=>
  have e:=Zaf e;subst e;cases Rep.je rx;cases Rep.je ry;cases ru;cases rv;rw[<-Zcv];exact⟨SeqAt.RcAt.bool_bool _ _,SeqAt.EqAt.bool_bool _ _,SeqAt.RcNeAt.bool_bool _ _⟩
 |.bl a,.str b,e=>
  have e:=Zaf e;subst e;cases Rep.je rx;cases Rep.cB ry;cases ru;obtain⟨tb,rfl⟩:=rv;exact⟨SeqAt.RcAt.bool_str _ _ _,SeqAt.EqAt.bool_str _ _ _,SeqAt.RcNeAt.bool_str _ _ _⟩
 |.int a,.non,e=>
  have e:=Zaf e;subst e;cases Rep.bC rx;cases Rep.fL ry;obtain⟨ta,rfl⟩:=ru;cases rv;exact⟨SeqAt.RcAt.int_none _ _,SeqAt.EqAt.int_none _ _,SeqAt.RcNeAt.int_none _ _⟩
 |.int a,.int b,e=>
  have e:=Zaf e;subst e;cases Rep.bC rx;cases Rep.bC ry;obtain⟨ta,rfl⟩:=ru;obtain⟨tb,rfl⟩:=rv;rw[<-Zcv];exact⟨SeqAt.RcAt.int_int _ _ _ _,SeqAt.EqAt.int_int _ _ _ _,SeqAt.RcNeAt.int_int _ _ _ _⟩
 |.int a,.str b,e=>
  have e:=Zaf e;subst e;cases Rep.bC rx;cases Rep.cB ry;obtain⟨ta,rfl⟩:=ru;obtain⟨tb,rfl⟩:=rv;exact⟨SeqAt.RcAt.int_str _ _ _ _,SeqAt.EqAt.int_str _ _ _ _,SeqAt.RcNeAt.int_str _ _ _ _⟩
 |.str a,.non,e=>
  have e:=Zaf e;subst e;cases Rep.cB rx;cases Rep.fL ry;obtain⟨ta,rfl⟩:=ru;cases rv;exact⟨SeqAt.RcAt.str_none _ _,SeqAt.EqAt.str_none _ _,SeqAt.RcNeAt.str_none _ _⟩
 |.str a,.bl b,e=>
  have e:=Zaf e;subst e;cases Rep.cB rx;cases Rep.je ry;obtain⟨ta,rfl⟩:=ru;cases rv;exact⟨SeqAt.RcAt.str_bool _ _ _,SeqAt.EqAt.str_bool _ _ _,SeqAt.RcNeAt.str_bool _ _ _⟩
 |.str a,.int b,e=>
  have e:=Zaf e;subst e;cases Rep.cB rx;cases Rep.bC ry;obtain⟨ta,rfl⟩:=ru;obtain⟨tb,rfl⟩:=rv;exact⟨SeqAt.RcAt.str_int _ _ _ _,SeqAt.EqAt.str_int _ _ _ _,SeqAt.RcNeAt.str_int _ _ _ _⟩
 |.str a,.str b,e=>
  have e:=Zaf e;subst e;cases Rep.cB rx;cases Rep.cB ry;obtain⟨ta,rfl⟩:=ru;obtain⟨tb,rfl⟩:=rv;rw[<-Zcv];exact⟨SeqAt.RcAt.str_str _ _ _ _,SeqAt.EqAt.str_str _ _ _ _,SeqAt.RcNeAt.str_str _ _ _ _⟩
 |.tup a,.non,e=>
  have e:=Zaf e;subst e;obtain⟨aa,xsa,rfl,ha,_⟩:=rx.cV;cases ru;obtain⟨_,_,pa,_⟩:=I.tuple ha;cases Rep.fL ry;cases rv;exact⟨SeqAt.RcAt.tuple_none pa hu0,SeqAt.EqAt.tuple_none pa hu0,SeqAt.RcNeAt.tuple_none pa hu0⟩
 |.non,.tup b,e=>
  have e:=Zaf e;subst e;cases Rep.fL rx;cases ru;obtain⟨ab,xsb,rfl,hb,_⟩:=ry.cV;cases rv;obtain⟨_,_,pb,_⟩:=I.tuple hb;exact⟨SeqAt.RcAt.none_tuple pb hu0,SeqAt.EqAt.none_tuple pb hu0,SeqAt.RcNeAt.none_tuple pb hu0⟩
 |.tup a,.int b,e=>
  have e:=Zaf e;subst e;obtain⟨aa,xsa,rfl,ha,_⟩:=rx.cV;cases ru;obtain⟨_,_,pa,_⟩:=I.tuple ha;cases Rep.bC ry;obtain⟨tb,rfl⟩:=rv;exact⟨SeqAt.RcAt.tuple_int _ _ pa hu0,SeqAt.EqAt.tuple_int _ _ pa hu0,SeqAt.RcNeAt.tuple_int _ _ pa hu0⟩
 |.int a,.tup b,e=>
  have e:=Zaf e;subst e;cases Rep.bC rx;obtain⟨ta,rfl⟩:=ru;obtain⟨ab,xsb,rfl,hb,_⟩:=ry.cV;cases rv;obtain⟨_,_,pb,_⟩:=I.tuple hb;exact⟨SeqAt.RcAt.int_tuple _ _ pb hu0,SeqAt.EqAt.int_tuple _ _ pb hu0,SeqAt.RcNeAt.int_tuple _ _ pb hu0⟩
 |.tup a,.str b,e=>
  have e:=Zaf e;subst e;obtain⟨aa,xsa,rfl,ha,_⟩:=rx.cV;cases ru;obtain⟨_,_,pa,_⟩:=I.tuple ha;cases Rep.cB ry;obtain⟨tb,rfl⟩:=rv;exact⟨SeqAt.RcAt.tuple_str _ _ pa hu0,SeqAt.EqAt.tuple_str _ _ pa hu0,SeqAt.RcNeAt.tuple_str _ _ pa hu0⟩
 |.str a,.tup b,e=>
  have e:=Zaf e;subst e;cases Rep.cB rx;obtain⟨ta,rfl⟩:=ru;obtain⟨ab,xsb,rfl,hb,_⟩:=ry.cV;cases rv;obtain⟨_,_,pb,_⟩:=I.tuple hb;exact⟨SeqAt.RcAt.str_tuple _ _ pb hu0,SeqAt.EqAt.str_tuple _ _ pb hu0,SeqAt.RcNeAt.str_tuple _ _ pb hu0⟩
 |.lst a,.non,e=>
  have e:=Zaf e;subst e;obtain⟨aa,xsa,rfl,ha,_⟩:=rx.cC;cases ru;obtain⟨_,_,pa,_⟩:=I.list ha;cases Rep.fL ry;cases rv;exact⟨SeqAt.RcAt.list_none pa.isList hu0,SeqAt.EqAt.list_none pa.isList hu0,SeqAt.RcNeAt.list_none pa.isList hu0⟩
 |.non,.lst b,e=>
  have e:=Zaf e;subst e;cases Rep.fL rx;cases ru;obtain⟨ab,xsb,rfl,hb,_⟩:=ry.cC;cases rv;obtain⟨_,_,pb,_⟩:=I.list hb;exact⟨SeqAt.RcAt.none_list pb.isList hu0,SeqAt.EqAt.none_list pb.isList hu0,SeqAt.RcNeAt.none_list pb.isList hu0⟩
 |.lst a,.int b,e=>
  have e:=Zaf e;subst e;obtain⟨aa,xsa,rfl,ha,_⟩:=rx.cC;cases ru;obtain⟨_,_,pa,_⟩:=I.list ha;cases Rep.bC ry;obtain⟨tb,rfl⟩:=rv;exact⟨SeqAt.RcAt.list_int _ _ pa.isList hu0,SeqAt.EqAt.list_int _ _ pa.isList hu0,SeqAt.RcNeAt.list_int _ _ pa.isList hu0⟩
 |.int a,.lst b,e=>
  have e:=Zaf e;subst e;cases Rep.bC rx;obtain⟨ta,rfl⟩:=ru;obtain⟨ab,xsb,rfl,hb,_⟩:=ry.cC;cases rv;obtain⟨_,_,pb,_⟩:=I.list hb;exact⟨SeqAt.RcAt.int_list _ _ pb.isList hu0,SeqAt.EqAt.int_list _ _ pb.isList hu0,SeqAt.RcNeAt.int_list _ _ pb.isList hu0⟩
 |.lst a,.str b,e=>
  have e:=Zaf e;subst e;obtain⟨aa,xsa,rfl,ha,_⟩:=rx.cC;cases ru;obtain⟨_,_,pa,_⟩:=I.list ha;cases Rep.cB ry;obtain⟨tb,rfl⟩:=rv;exact⟨SeqAt.RcAt.list_str _ _ pa.isList hu0,SeqAt.EqAt.list_str _ _ pa.isList hu0,SeqAt.RcNeAt.list_str _ _ pa.isList hu0⟩
 |.str a,.lst b,e=>
  have e:=Zaf e;subst e;cases Rep.cB rx;obtain⟨ta,rfl⟩:=ru;obtain⟨ab,xsb,rfl,hb,_⟩:=ry.cC;cases rv;obtain⟨_,_,pb,_⟩:=I.list hb;exact⟨SeqAt.RcAt.str_list _ _ pb.isList hu0,SeqAt.EqAt.str_list _ _ pb.isList hu0,SeqAt.RcNeAt.str_list _ _ pb.isList hu0⟩
 |.lst a,.tup b,e=>
  have e:=Zaf e;subst e;obtain⟨aa,xsa,rfl,ha,_⟩:=rx.cC;cases ru;obtain⟨_,_,pa,_⟩:=I.list ha;obtain⟨ab,xsb,rfl,hb,_⟩:=ry.cV;cases rv;obtain⟨_,_,pb,_⟩:=I.tuple hb;exact⟨SeqAt.RcAt.list_tuple pa.isList pb hu0,SeqAt.EqAt.list_tuple pa.isList pb hu0,SeqAt.RcNeAt.list_tuple pa.isList pb hu0⟩
 |.tup a,.lst b,e=>
  have e:=Zaf e;subst e;obtain⟨aa,xsa,rfl,ha,_⟩:=rx.cV;cases ru;obtain⟨_,_,pa,_⟩:=I.tuple ha;obtain⟨ab,xsb,rfl,hb,_⟩:=ry.cC;cases rv;obtain⟨_,_,pb,_⟩:=I.list hb;exact⟨SeqAt.RcAt.tuple_list pa pb.isList hu0,SeqAt.EqAt.tuple_list pa pb.isList hu0,SeqAt.RcNeAt.tuple_list pa pb.isList hu0⟩
def Rk:PV->PV->Bool
 |.tup _,.tup _=>true
 |.lst _,.lst _=>true
 |_,_=>false
theorem Rm{n:Nat}{p q:PV}(h:Rk p q=false):eqF (n+1) p q=eqF 0 p q:=by
 cases p<;>cases q<;>first|rfl|cases h
theorem Pg:∀ {p q:PV},Rk p q=true->(∃ l m,p=.tup l/\q=.tup m)\/∃ l m,p=.lst l/\q=.lst m
 |.tup l,q,h=>by
  cases q with
  |tup m=>exact .inl ⟨l,m,rfl,rfl⟩
  |_=>cases h
 |.lst l,q,h=>by
  cases q with
  |lst m=>exact .inr ⟨l,m,rfl,rfl⟩
  |_=>cases h
theorem Rn(I:Inv X pins O H s):∀ (n:Nat) {A:Around}{x y:V}{p q:PV}{r:Bool}{u v:Value},A.units+n<cLine->eqF n p q=some r->Rep X.K H x p->Rep X.K H y q->RelV x u->RelV y v ->
  SeqAt.RcAt A s u v r/\SeqAt.EqAt A s u v r/\SeqAt.RcNeAt A s u v (!r):=by
 intro n;induction n with
 |zero=>exact λhu e=>Rj I (by lia) e
 |succ n ih=>
  intro A x y p q r u v hu e rx ry ru rv;have hu0:A.units<cLine:=by lia
  cases hr:Rk p q with
  |false=>exact Rj I hu0 (by rw[<-Rm hr];exact e) rx ry ru rv
  |true=>
  rcases Pg hr with⟨l,m,rfl,rfl⟩|⟨l,m,rfl,rfl⟩
  ·have e:eqL (eqF n) l m=some r:=e;obtain⟨a,xs,rfl,ha,r1⟩:=rx.cV;obtain⟨b,ys,rfl,hb,r2⟩:=ry.cV;cases ru;cases rv;obtain⟨i1,v1,t1,_⟩:=I.tuple ha;obtain⟨i2,v2,t2,_⟩:=I.tuple hb;obtain⟨g,g1,g2⟩:=Fv e;have hj:∀ j (h1:j<i1.toArray.size) (h2:j<i2.toArray.size),SeqAt.EqAt A.in1 s i1.toArray[j] i2.toArray[j] (g j):=λj h1 h2=>by
    obtain⟨x,hx,rx'⟩:=vg v1 h1;obtain⟨y,hy,ry'⟩:=vg v2 h2;obtain⟨p',hp,rp⟩:=r1.got hx;obtain⟨q',hq,rq⟩:=r2.got hy;exact(ih (A:=A.in1) (show A.units+1+n<cLine by lia) (g1 j p' q' hp hq) rp rq rx' ry').2.1
   have rc:=SeqAt.RcAt.tuples (A:=A) (e:=g) t1 t2 hu0 hj;have rn:=SeqAt.RcNeAt.tuples (A:=A) (e:=g) t1 t2 hu0 hj;rw[List.size_toArray,List.size_toArray,<-v1.length,<-v2.length,r1.1,r2.1,<-g2] at rc rn;refine⟨rc,?_,rn⟩;by_cases hab:a=b
   ·subst hab;have epq:PV.tup l=PV.tup m:=Rep.inj I rx ry;cases epq;have er:=qw (HS n) e;subst er;exact SeqAt.EqAt.same _
   ·exact .of_refs hab rc
  ·obtain⟨a,xs,rfl,ha,r1⟩:=rx.cC;obtain⟨b,ys,rfl,hb,r2⟩:=ry.cC;cases ru;cases rv;obtain⟨i1,v1,t1,_⟩:=I.list ha;obtain⟨i2,v2,t2,_⟩:=I.list hb;have e:(if l.length=m.length then eqL (eqF n) l m else some false)=some r:=e;split at e
   ·rename_i hlm;obtain⟨g,g1,g2⟩:=Fv e;have hz:i1.toArray.size=i2.toArray.size:=by rw[List.size_toArray,List.size_toArray,<-v1.length,<-v2.length,r1.1,r2.1];exact hlm
    have hj:∀ j (h1:j<i1.toArray.size) (h2:j<i2.toArray.size),SeqAt.EqAt A.in1 s i1.toArray[j] i2.toArray[j] (g j):=λj h1 h2=>by
     obtain⟨x,hx,rx'⟩:=vg v1 h1;obtain⟨y,hy,ry'⟩:=vg v2 h2;obtain⟨p',hp,rp⟩:=r1.got hx;obtain⟨q',hq,rq⟩:=r2.got hy;exact(ih (A:=A.in1) (show A.units+1+n<cLine by lia) (g1 j p' q' hp hq) rp rq rx' ry').2.1
    have rc:=SeqAt.RcAt.lists (A:=A) (e:=g) t1.isList t2.isList hz hu0 hj;have e2:r=(List.range l.length).all g:=by rw[g2,<-hlm,Nat.min_self,beq_self_eq_true,Bool.and_true]
    have rn:=SeqAt.RcNeAt.lists (A:=A) (e:=g) t1.isList t2.isList hz hu0 hj;rw[List.size_toArray,<-v1.length,r1.1,<-e2] at rc rn;refine⟨rc,?_,rn⟩;by_cases hab:a=b
    ·subst hab;have epq:PV.lst l=PV.lst m:=Rep.inj I rx ry;cases epq;have er:=qw (HS n) e;subst er;exact SeqAt.EqAt.same _
    ·exact .of_refs hab rc
   ·rename_i hlm;cases e;have hz:(i1.toArray.size != i2.toArray.size)=true:=by rw[List.size_toArray,List.size_toArray,<-v1.length,<-v2.length,r1.1,r2.1];simpa using hlm
    have rc:=SeqAt.RcAt.lists_lengths (A:=A) t1.isList t2.isList hz hu0;have hab:a≠b:=λz=>by
     subst z;have epq:PV.lst l=PV.lst m:=Rep.inj I rx ry;cases epq;exact hlm rfl
    exact⟨rc,.of_refs hab rc,SeqAt.RcNeAt.lists_lengths (A:=A) t1.isList t2.isList hz hu0⟩
end
section
variable{X:Cx}{k:Nat}
theorem OpR.or{f:Value->Value->Sem Value}{r r':R2}(h:OpR X f r)(h':OpR X f r'):OpR X f (λx y H Q=>r x y H Q\/r' x y H Q):=by
 intro pins s O H x y v u Q I rx ry q;rcases q with q|q
 ·exact h pins s O H x y v u Q I rx ry q
 ·exact h' pins s O H x y v u Q I rx ry q
def YS(K:Frag):R2:=λx y H Q=>∃ p q r,Rep K H x p/\Rep K H y q/\eqF 32 p q=some r/\Q (.bl r) H
def YT(K:Frag):R2:=λx y H Q=>∃ p q r,Rep K H x p/\Rep K H y q/\eqF 32 p q=some r/\Q (.bl (!r)) H
theorem kh(hr:fu k X.A):OpR X (compareOp .Eq) (YS X.K):=by
 intro pins s O H x y v u Q I rx ry h;obtain⟨p,q,r,h1,h2,e,h3⟩:=h;exact(Rn I 32 (KY hr) e h1 h2 rx ry).1 X.prog X.w X.xe _ ⟨.bl r,H,I,rfl,h3⟩
theorem qx(hr:fu k X.A):OpR X (compareOp .NotEq) (YT X.K):=by
 intro pins s O H x y v u Q I rx ry h;obtain⟨p,q,r,h1,h2,e,h3⟩:=h;exact(Rn I 32 (KY hr) e h1 h2 rx ry).2.2 X.prog X.w X.xe _ ⟨.bl (!r),H,I,rfl,h3⟩
def inF(p:PV):List PV->Option Bool
 |[]=>some false
 |x::xs=>match eqF 31 x p,inF p xs with
  |some a,some b=>some (a||b)
  |_,_=>none
theorem MN{p:PV}:∀ {l:List PV}{r:Bool},inF p l=some r->∃ e:Nat->Bool,(∀ (j:Nat) x,l[j]?=some x->eqF 31 x p=some (e j))/\r=(List.range l.length).any e
 |[],r,h=>⟨λ_=>true,λj x a=>by simp at a,by cases h;rfl⟩
 |x::xs,r,h=>by
  rw[inF] at h;split at h
  ·rename_i a b h1 h2;cases h;obtain⟨e,e1,e2⟩:=MN h2;refine⟨λj=>match j with|0=>a|j+1=>e j,λj x' a'=>?_,?_⟩
   ·cases j with
    |zero=>simp at a';subst a';exact h1
    |succ j=>exact e1 j x' (by simpa using a')
   ·rw[e2,ZaP,List.range_succ_eq_map,Zb7,List.any_map];rfl
  ·cases h
def YW(K:Frag)(neg:Bool):R2:=λx y H Q=>∃ p l r,Rep K H x p/\(Rep K H y (.lst l)\/Rep K H y (.tup l))/\inF p l=some r/\Q (.bl (if neg=true then !r else r)) H
theorem HX{pins:List (Addr×Obj)}{O:St}{H:Hp}{s:Shared}(I:Inv X pins O H s)(hr:fu k X.A){x:V}{v:Value}{p:PV}{xs:List V}{its:List Value}{l:List PV}{r:Bool}(rx:RelV x v)(h1:Rep X.K H x p)(rv:Vals xs its)(hl:bG X.K H xs l)(e:inF p l=some r) :
  ∃ f:Value->Bool,(∀ y,y∈its.toArray->SeqAt.EqAt X.A.in1 s y v (f y))/\its.toArray.any f=r:=by
 obtain⟨g,g1,g2⟩:=MN e;have key:∀ w'∈its,∃ j,∃ hj:j<its.length,its[j]=w':=λw' hw=>by
  obtain⟨j,hj,e⟩:=List.mem_iff_getElem.mp hw;exact⟨j,hj,e⟩
 have look:∀ (j:Nat) (hj:j<its.length),∃ z q,l[j]?=some q/\RelV z its[j]/\Rep X.K H z q/\eqF 31 q p=some (g j):=λj hj=>by
  obtain⟨z,hz,rz⟩:=vg rv (j:=j) (by simpa using hj)
  obtain⟨q,hq,rq⟩:=hl.got hz;exact⟨z,q,hq,by simpa using rz,rq,g1 j q hq⟩
 classical
 let f:Value->Bool:=λw'=>if h:∃ j,∃ hj:j<its.length,its[j]=w' then g (Classical.choose h) else false
 have fe:∀ (j:Nat) (hj:j<its.length),f its[j]=g j:=λj hj=>by
  have hx:∃ i,∃ hi:i<its.length,its[i]=its[j]:=⟨j,hj,rfl⟩;show(if h:∃ i,∃ hi:i<its.length,its[i]=its[j] then g (Classical.choose h) else false)=g j
  rw[dif_pos hx];obtain⟨h1',h2'⟩:=Classical.choose_spec hx;generalize Classical.choose hx=i at h1' h2' ⊢
  obtain⟨z,q,_,rz,rq,eq1⟩:=look i h1';obtain⟨z',q',_,rz',rq',eq2⟩:=look j hj;rw[h2'] at rz;cases rz.inj rz';cases Rep.inj I rq rq';rw[eq1] at eq2;exact Zaf eq2
 refine⟨f,λy hy=>?_,?_⟩
 ·obtain⟨j,hj,e1⟩:=key y (by simpa using hy)
  obtain⟨z,q,_,rz,rq,eq1⟩:=look j hj;rw[<-e1,fe j hj];exact(Rn I 31 (A:=X.A.in1) (show X.A.units+1+31<cLine by have:=KY hr;lia) eq1 rq h1 rz rx).2.1
 ·have hlen:its.length=l.length:=by rw[<-rv.length,hl.1]
  rw[g2,show its.toArray.any f=its.any f by simp,Zco,ZcY,ZcY]
  constructor
  ·rintro⟨w',hw,hf⟩;obtain⟨j,hj,e1⟩:=key w' hw;exact⟨j,Zay.mpr (by lia),by rw[<-fe j hj,e1];exact hf⟩
  ·rintro⟨j,hj,hf⟩;have hj':j<its.length:=by rw[hlen];exact Zay.mp hj
   exact⟨its[j],ZbY hj',by rw[fe j hj'];exact hf⟩
theorem Ph(hr:fu k X.A):OpR X (compareOp .NotIn) (YW X.K true):=by
 intro pins s O H x y v u Q I rx ry h;obtain⟨p,l,r,h1,h2,e,q⟩:=h;rcases h2 with h2|h2
 ·obtain⟨a,xs,rfl,hq,rr⟩:=h2.cC;cases ry;obtain⟨its,rv,pl,_⟩:=I.list hq;obtain⟨f,f1,f2⟩:=HX I hr rx h1 rv rr e;exact SeqAt.notIn_listAt f pl.isList f1 (by rw[f2];exact⟨.bl _,H,I,rfl,q⟩)
 ·obtain⟨a,xs,rfl,hq,rr⟩:=h2.cV;cases ry;obtain⟨its,rv,pl,_⟩:=I.tuple hq;obtain⟨f,f1,f2⟩:=HX I hr rx h1 rv rr e;exact SeqAt.notIn_tupleAt f pl f1 (by rw[f2];exact⟨.bl _,H,I,rfl,q⟩)
def Fx(K:Frag):R2:=λx y H Q=>YW K true x y H Q\/∃ i j,x=.str i/\y=.str j/\Q (.bl (!(!(Builtin.Str.occurrences j i 0 j.length 1).isEmpty))) H
theorem Dz(hr:fu k X.A):OpR X (compareOp .NotIn) (Fx X.K):=OpR.or (Ph hr) EY
def Ro(K:Frag):R2:=λx y H Q=>rI0 (λi j=>.int (i+j)) x y H Q\/(∃ i j,x=.str i/\y=.str j/\i.length+j.length<=sizeLine/\Q (.str (i++j)) H)\/V8 K x y H Q
theorem cH:OpR X (binaryOp .Add) (Ro X.K):=OpR.or W2 (OpR.or Kz Ut)
def Wd:R2:=λx y H Q=>rI Kw (λi j=>.int (i*j)) x y H Q\/∃ z n,x=.str z/\y=.int n/\-(2^63)<=n/\n<2^63/\z.length*n.toNat<=sizeLine/\Q (.str ⟨(List.replicate n.toNat z.cps).foldl (·++·) #[]⟩) H
theorem dX:OpR X (binaryOp .Mult) Wd:=by
 refine OpR.or W3 ?_;intro pins s O H x y v u Q I rx ry h;obtain⟨z,n,rfl,rfl,h1,h2,h3,q⟩:=h;obtain⟨t,rfl⟩:=rx;obtain⟨t',rfl⟩:=ry;have fin:∀ t k,EP X pins O Q (.str ⟨(List.replicate n.toNat z.cps).foldl (·++·) #[]⟩ t) { s with toks:=k }:=λt k=>⟨.str _,H,I.tok _,⟨t,rfl⟩,q⟩;have hr:(decide (n < -(2^63:Int))||decide (n>=2^63))=false:=by
  rw[ZaH (by omega),ZaH (by omega)];rfl
 refine PySem.P.mul_str hr (λh4 h5=>?_) (λh4 h5=>?_) ?_
 ·have hn:1<=n:=by omega
  have h6:z.length<=sizeLine:=by
   have:z.length*1<=z.length*n.toNat:=Nat.mul_le_mul_left _ (by omega)
   omega
  have h7:n≠1:=λe=>by subst e;simp at h5
  have h8:(z.length:Int)*n<=16777216:=by
   have e:(z.length:Int)*n=((z.length*n.toNat:Nat):Int):=by
    rw[Int.natCast_mul,Zbv (by omega)]
   rw[e];have:z.length*n.toNat<=16777216:=h3;omega
  have h9:(z.length:Int)<=(2^63-1)/n:=by
   apply(Int.le_ediv_iff_mul_le (by omega)).mpr
   omega
  omega
 ·unfold Builtin.Str.tooLong;exact ZaH (by omega)
 ·by_cases h4:n<1
  ·rw[Zam h4];have e:n.toNat=0:=by omega
   rw[e] at fin;exact⟨Za4 _,fin _ _⟩
  ·rw[Zal h4];refine post_val_or_str ⟨?_,λt' k=>?_⟩
   ·have e1:∀ (m:Nat) (acc:Array Nat),((List.replicate m z.cps).foldl (·++·) acc).size=acc.size+m*z.cps.size:=λm=>by
     induction m with
     |zero=>intro acc;simp
     |succ m ih=>intro acc;rw[ZbH,Zc2,ih,Array.size_append,Nat.succ_mul];omega
    have h6:z.length<=sizeLine:=by
     have:z.length*1<=z.length*n.toNat:=Nat.mul_le_mul_left _ (by omega)
     omega
    split
    ·exact h6
    ·show((List.replicate n.toNat z.cps).foldl (·++·) #[]).size<=sizeLine
     rw[e1,Nat.mul_comm];show 0+z.length*n.toNat<=_
     omega
   ·have fz:=fin t' k;split
    ·rename_i h5;have e:(⟨(List.replicate n.toNat z.cps).foldl (·++·) #[]⟩:Str)=z:=by
      rcases Bool.or_eq_true _ _▸h5 with h|h
      ·have:n=1:=by simpa using h
       subst this;show(⟨#[]++z.cps⟩:Str)=z
       rw[Array.empty_append]
      ·have h1:z.length=0:=by simpa using h
       have h0:z.cps=#[]:=Array.eq_empty_of_size_eq_zero h1;have e2:∀ m:Nat,(List.replicate m (#[]:Array Nat)).foldl (·++·) #[]=#[]:=λm=>by
        induction m with
        |zero=>rfl
        |succ m ih=>rw[ZbH,Zc2];exact ih
       cases z with
       |mk c=>cases h0;rw[e2]
     rw[e] at fz;exact fz
    ·exact fz
def YX:R2:=λx y H Q=>rI0 (λi j=>.bl (decide (i<j))) x y H Q\/∃ i j,x=.str i/\y=.str j/\Q (.bl (decide (i.cps.toList<j.cps.toList))) H
theorem qy:OpR X (compareOp .Lt) YX:=OpR.or Yw Ox
def YZ:R2:=λx y H Q=>rI0 (λi j=>.bl (decide (i<=j))) x y H Q\/∃ i j,x=.str i/\y=.str j/\Q (.bl (!(decide (j.cps.toList<i.cps.toList)))) H
theorem K4:OpR X (compareOp .LtE) YZ:=OpR.or Yx O7
theorem Pj(l b:Addr)(i1 i2:Array Value)(n1 n2:Nat)(s1 s2:Array (Option Value))(hz:i1.size+i2.size<=sizeLine) :
  Meets (Builtin.«list.__add__» ⟨[.ref l,.ref b],[]⟩) (λ_ R s=>s.heap.get? l=some ⟨.type "list",none,.seq i1 n1,s1⟩/\s.heap.get? b=some ⟨.type "list",none,.seq i2 n2,s2⟩ /\
   R (.ok (.ret (Value.ref s.heap.objs.size))) { s with heap:=s.heap.push { cls:=Value.type "list",data:=Data.seq (i1++i2) } }):=by
 refine .of_wp λprog w A R s h=>?_;obtain⟨hp,g,d,tk,os⟩:=s;obtain⟨h1,h2,h⟩:=h;have f1:=AutoSeq1.idx_int;have f2:=AutoSeq1.sub_tuple_tuple;have f3:=AutoSeq1.sub_list_list;have f4:=AutoSeq1.sub_tuple_list;have f5:=AutoSeq1.sub_list_tuple
 wp_walk using AutoSeq1.wpAny_loadPart' h1,AutoSeq1.wpAny_loadPart' h2
 exact⟨_,rfl,h⟩
theorem Fy:OpR X (binaryOp .Add) (λx y H Q=>∃ l b xs zs,x=.ref l/\y=.ref b/\SqL X.K H l xs/\SqL X.K H b zs/\xs.length+zs.length<=sizeLine/\∀ p,H p=none->Q (.ref p) (upd H p (.lst (xs++zs)))):=by
 intro pins s O H x y v u Q I rx ry h;obtain⟨l,b,xs,zs,rfl,rfl,hH,hB,hz,q⟩:=h;cases rx;cases ry;obtain⟨its,r,⟨⟨cl1,dd1,da1,sl1⟩,n1,g1,c1,d1,e1⟩,z1⟩:=I.list hH;obtain⟨its2,r2,⟨⟨cl2,dd2,da2,sl2⟩,n2,g2,c2,d2,e2⟩,z2⟩:=I.list hB;simp only at c1 d1 e1 c2 d2 e2;subst c1 d1 e1 c2 d2 e2;have hs:its.toArray.size+its2.toArray.size<=sizeLine:=by rw[List.size_toArray,List.size_toArray,<-r.length,<-r2.length];exact hz
 refine concat_meets ⟨_,g1,rfl⟩ ⟨_,g2,rfl⟩ noFill_list_add seq_list_add F.slot_list_add F.entry_list_add (F.args_list_add_2 _ _) (Pj l b its.toArray its2.toArray n1 n2 sl1 sl2 hs) ⟨g1,g2,?_⟩;have ea:its.toArray++its2.toArray=(its++its2).toArray:=by simp
 rw[ea];exact⟨.ref _,_,I.ZF (t':=s.toks) (r.append r2) (by rw[Zas];lia),rfl,q _ I.fresh⟩
end
theorem noS{α:Type}{r:α}{C:Prop}(e:(none:Option α)=some r):C:=by cases e
def opI(c:Int->Int->Bool)(f:Int->Int->PV):PV->PV->Option (Res PV)
 |.int i,.int j=>if c i j=true then some (.ok (f i j)) else none
 |_,_=>none
def cT:Int->Int->Bool:=λ_ _=>true
def Rp:Int->Int->Bool:=λi j=>decide ((-(2^64)<i/\i<2^64)\/(-(2^64)<j/\j<2^64))
def Xp:Int->Int->Bool:=λ_ j=>decide (0<j/\j<1073741824)
def Y0:Int->Int->Bool:=λ_ j=>decide (0<j)
def Rq:Int->Int->Bool:=λi j=>decide (0<=j/\j<=1000000/\i.natAbs<2^64)
def Y4:Int->Int->Bool:=λ_ j=>decide (0<=j)
def sX:=opI cT λi j=>.int (i-j)
def zU:=opI Xp λi j=>.int (i/j)
def gP:=opI Y0 λi j=>.int (i%j)
def M3:=opI Rq λi j=>.int (i^j.toNat)
def yx:=opI Rq λi j=>.int (i*2^j.toNat)
def HY:=opI Y4 λi j=>.int (i/2^j.toNat)
def pW:=opI cT λi j=>.int (Builtin.bitAnd i j)
def Rr:=opI cT λi j=>.int (Builtin.bitOr i j)
def K5:=opI cT λi j=>.bl (decide (j<i))
def U0:=opI cT λi j=>.bl (decide (j<=i))
def dO:PV->PV->Option (Res PV)
 |.int i,.int j=>some (.ok (.int (i+j)))
 |.str i,.str j=>if i.length+j.length<=sizeLine then some (.ok (.str (i++j))) else none
 |.tup l,.tup m=>if l≠[]/\l.length+m.length<=sizeLine then some (.ok (.tup (l++m))) else none
 |_,_=>none
def Xq(z:Str)(n:Nat):Str:=⟨(List.replicate n z.cps).foldl (·++·) #[]⟩
def iT:PV->PV->Option (Res PV)
 |.int i,.int j=>if Rp i j=true then some (.ok (.int (i*j))) else none
 |.str z,.int n=>if -(2^63)<=n/\n<2^63/\z.length*n.toNat<=sizeLine then some (.ok (.str (Xq z n.toNat))) else none
 |_,_=>none
def zV:PV->PV->Option (Res PV)
 |.int i,.int j=>some (.ok (.bl (decide (i<j))))
 |.str i,.str j=>some (.ok (.bl (decide (i.cps.toList<j.cps.toList))))
 |_,_=>none
def Pn:PV->PV->Option (Res PV)
 |.int i,.int j=>some (.ok (.bl (decide (i<=j))))
 |.str i,.str j=>some (.ok (.bl (!(decide (j.cps.toList<i.cps.toList)))))
 |_,_=>none
def ph(p q:PV):Option (Res PV):=match eqF 32 p q with
 |some r=>some (.ok (.bl r))
 |none=>none
def uq(p q:PV):Option (Res PV):=match eqF 32 p q with
 |some r=>some (.ok (.bl (!r)))
 |none=>none
def inU(p:PV):PV->Option Bool
 |.lst l=>inF p l
 |.tup l=>inF p l
 |.str j=>match p with
  |.str i=>some (!(Builtin.Str.occurrences j i 0 j.length 1).isEmpty)
  |_=>none
 |_=>none
def mW(p q:PV):Option (Res PV):=match inU p q with
 |some r=>some (.ok (.bl (!r)))
 |none=>none
def PV.qz:PV->Bool
 |.non=>true
 |_=>false
def Rt(p q:PV):Option (Res PV):=match q with
 |.non=>some (.ok (.bl p.qz))
 |_=>none
def Fz(p q:PV):Option (Res PV):=match q with
 |.non=>some (.ok (.bl (!p.qz)))
 |_=>none
def ofO(x:Option PV):Option (Res PV):=match x with
 |some p=>some (.ok p)
 |none=>none
def bU:PV->PV->Option (Res PV)
 |.lst l,.int i=>ofO (atI l i)
 |.tup l,.int i=>ofO (atI l i)
 |.str z,.int i=>if z.length<=sizeLine then ofO ((atI z.cps.toList i).map λc=>.str ⟨#[c]⟩) else none
 |_,_=>none
def DG:List PV->PV->Option (Res PV)
 |l,.int i=>ofO (atI l i)
 |_,_=>none
section
variable{K:Frag}{C:Cg}{F H:Hp}
theorem Y5{i j:Int}(h:Xp i j=true):W0 i j:=of_decide_eq_true (p:=0<j/\j<1073741824) h
theorem We{i j:Int}(h:Rq i j=true):QF i j:=of_decide_eq_true (p:=0<=j/\j<=1000000/\i.natAbs<2^64) h
theorem Y6{i j:Int}(h:Rp i j=true):Kw i j:=of_decide_eq_true (p:=(-(2^64)<i/\i<2^64)\/(-(2^64)<j/\j<2^64)) h
theorem Ia{c:Int->Int->Bool}{f:Int->Int->PV}{cond:Int->Int->Prop}{fv:Int->Int->V}(hc:∀ i j,c i j=true->cond i j)(hf:∀ i j F,Rep K F (fv i j) (f i j)):R2M C (aF K) (aF K) (aF K) (rI cond fv) (opI c f):=by
 intro F H x y a b res Q s ha hb e P;have inv:(∃ i j,a=.int i/\b=.int j):=by
  clear P ha hb
  cases a<;>first|exact noS e|(cases b<;>first|exact noS e|exact⟨_,_,rfl,rfl⟩)
 obtain⟨i,j,rfl,rfl⟩:=inv;cases Rep.bC ha;cases Rep.bC hb;have e:(if c i j=true then some (Res.ok (f i j)) else none)=some res:=e;split at e
 ·rename_i h;cases e;exact⟨i,j,rfl,rfl,hc i j h,P _ F H (Up.refl s) (hf i j F)⟩
 ·cases e
theorem zW{f:Int->Int->PV}{fv:Int->Int->V}(hf:∀ i j F,Rep K F (fv i j) (f i j)):R2M C (aF K) (aF K) (aF K) (rI0 fv) (opI cT f):=by
 intro F H x y a b res Q s ha hb e P;have inv:(∃ i j,a=.int i/\b=.int j):=by
  clear P ha hb
  cases a<;>first|exact noS e|(cases b<;>first|exact noS e|exact⟨_,_,rfl,rfl⟩)
 obtain⟨i,j,rfl,rfl⟩:=inv;cases Rep.bC ha;cases Rep.bC hb;cases e;exact⟨i,j,rfl,rfl,P _ F H (Up.refl s) (hf i j F)⟩
theorem zX:R2M C (aF K) (aF K) (aF K) (rI0 λi j=>.int (i-j)) sX:=zW λ_ _ _=>.int
theorem M4:R2M C (aF K) (aF K) (aF K) (rI W0 λi j=>.int (i/j)) zU:=Ia (λ_ _ h=>Y5 h) λ_ _ _=>.int
theorem jh:R2M C (aF K) (aF K) (aF K) (rI (λ_ j=>0<j) λi j=>.int (i%j)) gP:=Ia (λ_ _ h=>of_decide_eq_true h) λ_ _ _=>.int
theorem Y7:R2M C (aF K) (aF K) (aF K) (rI QF λi j=>.int (i^j.toNat)) M3:=Ia (λ_ _ h=>We h) λ_ _ _=>.int
theorem Ib:R2M C (aF K) (aF K) (aF K) (rI QF λi j=>.int (i*2^j.toNat)) yx:=Ia (λ_ _ h=>We h) λ_ _ _=>.int
theorem Wf:R2M C (aF K) (aF K) (aF K) (rI (λ_ j=>0<=j) λi j=>.int (i/2^j.toNat)) HY:=Ia (λ_ _ h=>of_decide_eq_true h) λ_ _ _=>.int
theorem vC:R2M C (aF K) (aF K) (aF K) (rI0 λi j=>.int (Builtin.bitAnd i j)) pW:=zW λ_ _ _=>.int
theorem Y8:R2M C (aF K) (aF K) (aF K) (rI0 λi j=>.int (Builtin.bitOr i j)) Rr:=zW λ_ _ _=>.int
theorem U3:R2M C (aF K) (aF K) (aF K) (rI0 λi j=>.bl (decide (j<i))) K5:=zW λ_ _ _=>.bl
theorem ZL:R2M C (aF K) (aF K) (aF K) (rI0 λi j=>.bl (decide (j<=i))) U0:=zW λ_ _ _=>.bl
theorem eU:R2M C (aF K) (aF K) (aF K) (Ro K) dO:=by
 intro F H x y a b res Q s ha hb e P;have inv:(∃ i j,a=.int i/\b=.int j)\/(∃ i j,a=.str i/\b=.str j)\/(∃ l m,a=.tup l/\b=.tup m):=by
  clear P ha hb
  cases a<;>first|exact noS e|(cases b<;>first|exact noS e|exact .inl ⟨_,_,rfl,rfl⟩|exact .inr (.inl ⟨_,_,rfl,rfl⟩)|exact .inr (.inr ⟨_,_,rfl,rfl⟩))
 rcases inv with⟨i,j,rfl,rfl⟩|⟨i,j,rfl,rfl⟩|⟨l,m,rfl,rfl⟩
 ·cases Rep.bC ha;cases Rep.bC hb;cases e;exact .inl ⟨i,j,rfl,rfl,P _ F H (Up.refl s) .int⟩
 ·cases Rep.cB ha;cases Rep.cB hb;have e:(if i.length+j.length<=sizeLine then some (Res.ok (PV.str (i++j))) else none)=some res:=e;split at e
  ·rename_i h;cases e;exact .inr (.inl ⟨i,j,rfl,rfl,h,P _ F H (Up.refl s) .str⟩)
  ·cases e
 ·have e:(if l≠[]/\l.length+m.length<=sizeLine then some (Res.ok (PV.tup (l++m))) else none)=some res:=e;split at e
  ·rename_i h;cases e;obtain⟨a1,xs,rfl,h1,r1⟩:=Rep.cV ha;obtain⟨a2,ys,rfl,h2,r2⟩:=Rep.cV hb;have hx:xs≠[]:=λz=>h.1 (by have:=r1.1;rw[z] at this;simpa using this.symm)
   refine .inr (.inr ⟨a1,a2,xs,ys,rfl,rfl,s.tup h1,s.tup h2,hx,by rw[r1.1,r2.1];exact h.2,λz=>?_,λ_ p hp=>?_⟩)
   ·subst z;have hm:m=[]:=by have:=r2.1;simpa using this.symm
    subst hm;rw[Zbp] at P;exact P _ F H (Up.refl s) ha
   ·have un:=Up.new (o:=.tup (xs++ys)) s hp;exact P _ _ _ un (.tup aN (r1.append r2).1 ((r1.append r2).up un.ff).2)
  ·cases e
theorem jU:R2M C (aF K) (aF K) (aF K) Wd iT:=by
 intro F H x y a b res Q s ha hb e P;have inv:(∃ i j,a=.int i/\b=.int j)\/(∃ z n,a=.str z/\b=.int n):=by
  clear P ha hb
  cases a<;>first|exact noS e|(cases b<;>first|exact noS e|exact .inl ⟨_,_,rfl,rfl⟩|exact .inr ⟨_,_,rfl,rfl⟩)
 rcases inv with⟨i,j,rfl,rfl⟩|⟨z,n,rfl,rfl⟩
 ·cases Rep.bC ha;cases Rep.bC hb;have e:(if Rp i j=true then some (Res.ok (PV.int (i*j))) else none)=some res:=e;split at e
  ·rename_i h;cases e;exact .inl ⟨i,j,rfl,rfl,Y6 h,P _ F H (Up.refl s) .int⟩
  ·cases e
 ·cases Rep.cB ha;cases Rep.bC hb;have e:(if -(2^63)<=n/\n<2^63/\z.length*n.toNat<=sizeLine then some (Res.ok (PV.str (Xq z n.toNat))) else none)=some res:=e;split at e
  ·rename_i h;cases e;exact .inr ⟨z,n,rfl,rfl,h.1,h.2.1,h.2.2,P _ F H (Up.refl s) .str⟩
  ·cases e
theorem Ie:R2M C (aF K) (aF K) (aF K) YX zV:=by
 intro F H x y a b res Q s ha hb e P;have inv:(∃ i j,a=.int i/\b=.int j)\/(∃ i j,a=.str i/\b=.str j):=by
  clear P ha hb
  cases a<;>first|exact noS e|(cases b<;>first|exact noS e|exact .inl ⟨_,_,rfl,rfl⟩|exact .inr ⟨_,_,rfl,rfl⟩)
 rcases inv with⟨i,j,rfl,rfl⟩|⟨i,j,rfl,rfl⟩
 ·cases Rep.bC ha;cases Rep.bC hb;cases e;exact .inl ⟨i,j,rfl,rfl,P _ F H (Up.refl s) .bl⟩
 ·cases Rep.cB ha;cases Rep.cB hb;cases e;exact .inr ⟨i,j,rfl,rfl,P _ F H (Up.refl s) .bl⟩
theorem Xr:R2M C (aF K) (aF K) (aF K) YZ Pn:=by
 intro F H x y a b res Q s ha hb e P;have inv:(∃ i j,a=.int i/\b=.int j)\/(∃ i j,a=.str i/\b=.str j):=by
  clear P ha hb
  cases a<;>first|exact noS e|(cases b<;>first|exact noS e|exact .inl ⟨_,_,rfl,rfl⟩|exact .inr ⟨_,_,rfl,rfl⟩)
 rcases inv with⟨i,j,rfl,rfl⟩|⟨i,j,rfl,rfl⟩
 ·cases Rep.bC ha;cases Rep.bC hb;cases e;exact .inl ⟨i,j,rfl,rfl,P _ F H (Up.refl s) .bl⟩
 ·cases Rep.cB ha;cases Rep.cB hb;cases e;exact .inr ⟨i,j,rfl,rfl,P _ F H (Up.refl s) .bl⟩
theorem yP:R2M C (aH K) (aH K) (aF K) (YS K) ph:=by
 intro F H x y a b res Q s ha hb e P;unfold ph at e;split at e
 ·rename_i r h;cases e;exact⟨a,b,r,ha,hb,h,P _ F H (Up.refl s) .bl⟩
 ·cases e
theorem Ig:R2M C (aH K) (aH K) (aF K) (YT K) uq:=by
 intro F H x y a b res Q s ha hb e P;unfold uq at e;split at e
 ·rename_i r h;cases e;exact⟨a,b,r,ha,hb,h,P _ F H (Up.refl s) .bl⟩
 ·cases e
theorem FJ:R2M C (aH K) (aH K) (aF K) (Fx K) mW:=by
 intro F H x y a b res Q s ha hb e P;unfold mW at e;split at e
 ·rename_i r h;cases e
  match b,h with
  |.lst l,h=>exact .inl ⟨a,l,r,ha,.inl hb,h,P _ F H (Up.refl s) .bl⟩
  |.tup l,h=>exact .inl ⟨a,l,r,ha,.inr hb,h,P _ F H (Up.refl s) .bl⟩
  |.str j,h=>
   match a,h with
   |.str i,h=>
    cases h;exact .inr ⟨i,j,Rep.cB ha,Rep.cB hb,P _ F H (Up.refl s) .bl⟩
 ·cases e
theorem Ih{v:V}{p:PV}(h:Rep K F v p):decide (v=.non)=p.qz:=by
 cases h<;>first|rfl|exact ZaH (by intro z;cases z)
theorem Y9:R2M C (aH K) (aF K) (aF K) (λx y H Q=>y=.non/\Q (.bl (decide (x=.non))) H) Rt:=by
 intro F H x y a b res Q s ha hb e P
 match b,e with
 |.non,e=>
  cases e;rw[Ih ha];exact⟨Rep.fL hb,P _ F H (Up.refl s) .bl⟩
theorem Ru:R2M C (aH K) (aF K) (aF K) (λx y H Q=>y=.non/\Q (.bl (!decide (x=.non))) H) Fz:=by
 intro F H x y a b res Q s ha hb e P
 match b,e with
 |.non,e=>
  cases e;rw[Ih ha];exact⟨Rep.fL hb,P _ F H (Up.refl s) .bl⟩
theorem FN{xs:List V}{l:List PV}{i:Int}{p:PV}(r:bG K F xs l)(h:atI l i=some p):∃ v,atI xs i=some v/\Rep K F v p:=by
 unfold atI at h ⊢;rw[r.1];cases e:ixN l.length i with
 |none=>rw[e] at h;cases h
 |some j=>
  rw[e] at h;exact r.get h
theorem vD{x:Option PV}{res:Res PV}(h:ofO x=some res):∃ p,x=some p/\res=.ok p:=by
 cases x with
 |none=>cases h
 |some p=>cases h;exact⟨p,rfl,rfl⟩
theorem b7:R2M C (aF K) (aF K) (aF K) (rIx K) bU:=by
 intro F H x y a b res Q s ha hb e P;have inv:(∃ l i,a=.lst l/\b=.int i)\/(∃ l i,a=.tup l/\b=.int i)\/(∃ z i,a=.str z/\b=.int i):=by
  clear P ha hb
  cases a<;>first|exact noS e|(cases b<;>first|exact noS e|exact .inl ⟨_,_,rfl,rfl⟩|exact .inr (.inl ⟨_,_,rfl,rfl⟩)|exact .inr (.inr ⟨_,_,rfl,rfl⟩))
 rcases inv with⟨l,i,rfl,rfl⟩|⟨l,i,rfl,rfl⟩|⟨z,i,rfl,rfl⟩
 ·cases Rep.bC hb;obtain⟨p,e1,rfl⟩:=vD e;obtain⟨a1,xs,rfl,h1,r1⟩:=Rep.cC ha;obtain⟨v,e2,rv⟩:=FN r1 e1;exact .inl ⟨a1,xs,i,v,rfl,rfl,s.seq h1,e2,P _ F H (Up.refl s) rv⟩
 ·cases Rep.bC hb;obtain⟨p,e1,rfl⟩:=vD e;obtain⟨a1,xs,rfl,h1,r1⟩:=Rep.cV ha;obtain⟨v,e2,rv⟩:=FN r1 e1;exact .inr (.inl ⟨a1,xs,i,v,rfl,rfl,s.tup h1,e2,P _ F H (Up.refl s) rv⟩)
 ·cases Rep.bC hb;cases Rep.cB ha;have e:(if z.length<=sizeLine then ofO ((atI z.cps.toList i).map λc=>PV.str ⟨#[c]⟩) else none)=some res:=e;split at e
  ·rename_i hz;obtain⟨p,e1,rfl⟩:=vD e;cases e2:atI z.cps.toList i with
   |none=>rw[e2] at e1;cases e1
   |some c=>
    rw[e2] at e1;cases e1;exact .inr (.inr ⟨z,i,c,rfl,rfl,hz,e2,P _ F H (Up.refl s) .str⟩)
  ·cases e
theorem M5:R2M C (aV K) (aF K) (aF K) (rIx K) DG:=by
 intro F H x y a b res Q s ha hb e P
 match b,e with
 |.int i,e=>
  cases Rep.bC hb;obtain⟨p,e1,rfl⟩:=vD e;obtain⟨a1,xs,rfl,h1,r1⟩:=ha;obtain⟨v,e2,rv⟩:=FN r1 e1;exact .inl ⟨a1,xs,i,v,rfl,rfl,h1,e2,P _ F H (Up.refl s) rv⟩
def DK(l m:List PV):Option (Res PV):=if l.length+m.length<=sizeLine then some (.ok (.lst (l++m))) else none
def Za(K:Frag):R2:=λx y H Q=>∃ l b xs zs,x=.ref l/\y=.ref b/\SqL K H l xs/\SqL K H b zs/\xs.length+zs.length<=sizeLine/\∀ p,H p=none->Q (.ref p) (upd H p (.lst (xs++zs)))
theorem Rv:R2O K C (aV K) (aV K) (Za K) DK:=by
 intro F H x y a b res Q s ha hb e P;unfold DK at e;split at e
 ·rename_i h;cases e;obtain⟨a1,xs,rfl,h1,r1⟩:=ha;obtain⟨a2,ys,rfl,h2,r2⟩:=hb;refine⟨a1,a2,xs,ys,rfl,rfl,h1,h2,by rw[r1.1,r2.1];exact h,λp hp=>?_⟩
  exact P p F _ (Up.Cz s hp) hp (s.free hp) ⟨_,aN,r1.append r2⟩
 ·cases e
variable{te:TE}
theorem bG.rep{xs:List V}{l:List PV}(h:bG K F xs l):∀ n:Nat,bG K F (List.replicate n xs).flatten (List.replicate n l).flatten
 |0=>.nil
 |n+1=>by
  rw[ZbH,ZbE,ZbH,ZbE];exact h.append (bG.rep h n)
def MP'(K:Frag)(C:Cg)(t:TO)(f:Fn (Option Int)):Prop:=
 ∀ F H O Z Q r,RE K C.toCf F H O Z->f Z=some r->Pr C F (λo=>∀ F' H',Up F H F' H'->Q o H') r->t O H Q
def mPn:Fn (Option Int):=λ_=>some (.ok none)
def asInt:PV->Option (Res (Option Int))
 |.int i=>some (.ok (some i))
 |_=>none
theorem FP:MP' K C Mu mPn:=λF H O Z Q r R e P=>by
 cases e;exact P F H (Up.refl R.rb.sub)
theorem vG{f:Fn PV}(h:MJ K C (aF K) te f):MP' K C (V7 te) (m1 asInt f):=by
 intro F H O Z Q r R e P;refine h.run R e P λp v F1 H1 hk u a=>?_
 match p,hk with
 |.int i,hk=>
  cases Rep.bC a;cases hk;exact⟨i,rfl,P F1 H1 u⟩
theorem MP'.run{β:Type}{t:TO}{f:Fn (Option Int)}{O:St}{Z:Rho}{Q:Option Int->Hp->Prop}{ok:β->Prop}{k:Option Int->Option (Res β)}{r:Res β}(h:MP' K C t f)(R:RE K C.toCf F H O Z)(hb:bnd (f Z) k=some r)(P:Pr C F ok r)
  (go:∀ o F1 H1,k o=some r->Up F H F1 H1->Q o H1):t O H Q:=by
 rcases bM hb with⟨z,e,rfl⟩|⟨p,e,hk⟩
 ·exact h F H O Z Q _ R e P
 ·exact h F H O Z Q _ R e λF1 H1 u=>go p F1 H1 hk u
def ur(l:List PV)(lo hi:Option Int):List PV:=(l.drop (HT.sIx l.length 0 lo)).take (HT.sIx l.length l.length hi-HT.sIx l.length 0 lo)
theorem bG.cut{xs:List V}{l:List PV}(h:bG K F xs l)(lo hi:Option Int):bG K F (Fe xs lo hi) (ur l lo hi):=by
 unfold Fe ur;rw[h.1];exact(h.drop _).take _
def Rw(f:Fn (List PV))(lo hi:Fn (Option Int)):Fn PV:=λZ=>bnd (f Z) λl=>bnd (lo Z) λa=>bnd (hi Z) λb=>some (.ok (.lst (ur l a b)))
theorem Rx{f:Fn (List PV)}{lo hi:Fn (Option Int)}{tl th:TO}(h:MJ K C (aV K) te f)(hl:MP' K C tl lo)(hh:MP' K C th hi):MO K C (tSl (YJ K) te tl th) (Rw f lo hi):=by
 intro F H O Z Q r R e P;refine h.run R e P λl v F1 H1 hk u a=>?_;refine hl.run (R.up u) hk (P.zO u) λo F2 H2 hk2 u2=>?_;refine hh.run (R.up (u.trans u2)) hk2 (P.zO (u.trans u2)) λo2 F3 H3 hk3 u3=>?_;cases hk3;obtain⟨b,xs,rfl,h1,r1⟩:=a;have u23:=u2.trans u3;refine⟨b,xs,rfl,u23.hh.seq h1,λp hp=>?_⟩;exact P p F3 _ (u.trans (u23.trans (Up.Cz u3.fh hp))) ((u.hh.trans u23.hh).free hp) (u3.fh.free hp) ⟨_,aN,(r1.up u23.ff).cut _ _⟩
def Ry(a b:Option Int):PV->Option (Res PV)
 |.tup l=>if ¬(HT.sIx l.length 0 a=0/\HT.sIx l.length l.length b=l.length) then some (.ok (.tup (ur l a b))) else none
 |_=>none
def Rz(f:Fn PV)(lo hi:Fn (Option Int)):Fn PV:=λZ=>bnd (f Z) λz=>bnd (lo Z) λa=>bnd (hi Z) λb=>Ry a b z
theorem RC{f:Fn PV}{lo hi:Fn (Option Int)}{tl th:TO}(h:MJ K C (aF K) te f)(hl:MP' K C tl lo)(hh:MP' K C th hi):MJ K C (aF K) (tSl (YD K) te tl th) (Rz f lo hi):=by
 intro F H O Z Q r R e P;refine h.run R e P λl v F1 H1 hk u a=>?_;refine hl.run (R.up u) hk (P.later u) λo F2 H2 hk2 u2=>?_;refine hh.run (R.up (u.trans u2)) hk2 (P.later (u.trans u2)) λo2 F3 H3 hk3 u3=>?_
 match l,hk3 with
 |.tup l,hk3=>
  have hk3:(if ¬(HT.sIx l.length 0 o=0/\HT.sIx l.length l.length o2=l.length) then some (Res.ok (PV.tup (ur l o o2))) else none)=some r:=hk3;split at hk3
  ·rename_i hz;cases hk3;obtain⟨b,xs,rfl,h1,r1⟩:=Rep.cV a;have u23:=u2.trans u3;refine⟨b,xs,rfl,(u23.ff.trans u3.fh).tup h1,by rw[r1.1];exact hz,λp hp=>?_⟩
   have un:=Up.new (o:=.tup (Fe xs o o2)) u3.fh hp;have rc:=(r1.up u23.ff).cut o o2;exact P _ _ _ (u.trans (u23.trans un)) (.tup aN rc.1 (rc.up un.ff).2)
  ·cases hk3
end
def Wg(K:Frag)(tl:TE):TI:=λO H R=>tl O H λx H1=>(∃ a,x=.ref a/\(∃ xs,SqL K H1 a xs)/\R (Itl K a) H1)\/(∃ a,x=.ref a/\(∃ xs,SqT K H1 a xs)/\R (Itt K a) H1)\/∃ z,x=.str z/\R (Itf (sgn z) z.cps.size) H1
theorem iw{X:Cx}{tg l:Expr}{tl:TE}(hl:PE X l tl):PI X tg l (Wg X.K tl):=by
 intro pins s O H R I h;refine thn (hl pins s O H _ I h) ?_;rintro v s1 ⟨x,H1,I1,r1,q1⟩;have keep:∀ (o:Obj),Inv X pins O H1 { s1 with heap:=s1.heap.push o }:=λo=>I1.kept (t':=s1.toks) λb ob e=>Zaj _ e;have fp:∀ b∈[s1.heap.objs.size],zE X pins H1 b:=λb hb=>by
  have e:b=s1.heap.objs.size:=by simpa using hb
  subst e;exact I1.Cv (Zan _) (I1.hok.fresh (Zan _))
 rcases q1 with⟨a,rfl,⟨xs,hq⟩,q⟩|⟨a,rfl,⟨xs,hq⟩,q⟩|⟨z,rfl,q⟩
 ·cases r1;obtain⟨its,rv,p,hz⟩:=I1.list hq;exact wpAny_pyIter_list p.isList ⟨_,[_],_,_,H1,rfl,keep _,Ov a _,⟨_,Zar _ rfl,rfl,rfl⟩,fp,q⟩
 ·cases r1;obtain⟨its,rv,p,hz⟩:=I1.tuple hq;exact wpAny_pyIter_tuple (show s1.heap.IsTuple a its.toArray from p) ⟨_,[_],_,_,H1,rfl,keep _,Ku a _,⟨_,Zar _ rfl,rfl,rfl⟩,fp,q⟩
 ·obtain⟨t,rfl⟩:=r1;exact wpAny_pyIter_strU ⟨_,[_],_,_,H1,rfl,keep _,QT _ z t,⟨_,Zar _ rfl,rfl,rfl⟩,fp,q⟩
section
variable{K:Frag}{C:Cg}{F H:Hp}{O:St}{Z:Rho}{te:TE}{tA:TA}{a:Addr}{xs:List V}{l:List PV}
def signs(z:Str):List PV:=z.cps.toList.map λc=>.str ⟨#[c]⟩
def kY:PV->Option (Res (List PV))
 |.lst l=>some (.ok l)
 |.tup l=>some (.ok l)
 |.str z=>some (.ok (signs z))
 |_=>none
theorem RG(h:SqL K F a xs)(r:bG K F xs l):ItR K (Itl K a) F l where
 stop:=λF' H' s s'=>⟨xs,(s.trans s').seq h,by rw[r.1];exact Zan _⟩
 go:=λi F' H' hi s s'=>⟨xs,xs[i]'(by rw[r.1];exact hi),(s.trans s').seq h,by simp⟩
 yld:=λi F' H' x H'' hi s s' y=>by
  obtain⟨rfl,y⟩:=y;have e:=y xs ((s.trans s').seq h);obtain⟨p,e2,rp⟩:=r.got e;exact⟨F',p,Up.refl s',e2,rp.up s⟩
theorem U4(h:SqT K F a xs)(r:bG K F xs l):ItR K (Itt K a) F l where
 stop:=λF' H' s s'=>⟨xs,(s.trans s').tup h,by rw[r.1];exact Zan _⟩
 go:=λi F' H' hi s s'=>⟨xs,xs[i]'(by rw[r.1];exact hi),(s.trans s').tup h,by simp⟩
 yld:=λi F' H' x H'' hi s s' y=>by
  obtain⟨rfl,y⟩:=y;have e:=y xs ((s.trans s').tup h);obtain⟨p,e2,rp⟩:=r.got e;exact⟨F',p,Up.refl s',e2,rp.up s⟩
theorem U5(z:Str):ItR K (Itf (sgn z) z.cps.size) F (signs z) where
 stop:=λF' H' s s'=>by simp[signs,Itf]
 go:=λi F' H' hi s s'=>by simpa[signs,Itf] using hi
 yld:=λi F' H' x H'' hi s s' y=>by
  obtain⟨rfl,rfl⟩:=y;have hi':i<z.cps.size:=by simpa[signs] using hi
  refine⟨F',.str ⟨#[z.cps.getD i 0]⟩,Up.refl s',?_,.str⟩;unfold signs;rw[Zac,Zbq,ZaN,ZaL hi'];rfl
theorem iy{f:Fn PV}(h:MJ K C (aF K) te f):MI K C (Wg K te) (m1 kY f):=by
 intro F H O Z R' r R e P;refine h.run R e P λp v F1 H1 hk u a=>?_
 match p,hk with
 |.lst l,hk=>
  cases hk;obtain⟨b,xs,rfl,h1,r1⟩:=Rep.cC a;exact .inl ⟨b,rfl,⟨xs,u.fh.seq h1⟩,P _ F1 H1 u (RG h1 r1)⟩
 |.tup l,hk=>
  cases hk;obtain⟨b,xs,rfl,h1,r1⟩:=Rep.cV a;exact .inr (.inl ⟨b,rfl,⟨xs,u.fh.tup h1⟩,P _ F1 H1 u (U4 h1 r1)⟩)
 |.str z,hk=>
  cases hk;cases Rep.cB a;exact .inr (.inr ⟨z,rfl,P _ F1 H1 u (U5 z)⟩)
def pq(lo:Int)(n:Nat):List PV:=(List.range n).map λ(i:Nat)=>.int (lo+(i:Int))
theorem iU(lo:Int)(n:Nat):(pq lo n).length=n:=by simp[pq]
theorem M6(lo:Int)(n:Nat):ItR K (Itr lo n) F (pq lo n) where
 stop:=λF' H' s s'=>by rw[iU];exact Zan _
 go:=λi F' H' hi s s'=>by rw[iU] at hi;exact hi
 yld:=λi F' H' x H'' hi s s' y=>by
  obtain⟨rfl,rfl⟩:=y;rw[iU] at hi;refine⟨F',.int (lo+i),Up.refl s',?_,.int⟩;unfold pq;rw[Zac,Zbh hi];rfl
def nJ:List PV->Option (Res (List PV))
 |[.int j]=>if -(2^62)<=j/\j<2^62 then some (.ok (pq 0 j.toNat)) else none
 |_=>none
def FQ:List PV->Option (Res (List PV))
 |[.int i,.int j]=>if -(2^62)<=i/\i<2^62/\-(2^62)<=j/\j<2^62 then some (.ok (pq i (j-i).toNat)) else none
 |_=>none
theorem mX{f:Fn (List PV)}(h:MA K C tA f):MI K C (V2 tA) (m1 nJ f):=by
 intro F H O Z R' r R e P;refine h.run R e P λl xs F1 H1 hk u a=>?_;have inv:∃ j,l=[.int j]:=by
  clear P u a
  rcases l with _|⟨x,_|⟨y,l⟩⟩<;>first|exact noS hk|(cases x<;>first|exact noS hk|exact⟨_,rfl⟩)
 obtain⟨j,rfl⟩:=inv;have hk:(if -(2^62)<=j/\j<2^62 then some (Res.ok (pq 0 j.toNat)) else none)=some r:=hk;split at hk
 ·rename_i hj;cases hk;obtain⟨v,ys,rfl,r1,r2⟩:=a.dw;cases r2.jd;cases Rep.bC r1;exact⟨j,rfl,hj.1,hj.2,P _ F1 H1 u (M6 0 j.toNat)⟩
 ·cases hk
theorem M7{f:Fn (List PV)}(h:MA K C tA f):MI K C (V3 tA) (m1 FQ f):=by
 intro F H O Z R' r R e P;refine h.run R e P λl xs F1 H1 hk u a=>?_;have inv:∃ i j,l=[.int i,.int j]:=by
  clear P u a
  rcases l with _|⟨x,_|⟨y,_|⟨z,l⟩⟩⟩<;>first|exact noS hk|(cases x<;>first|exact noS hk|(cases y<;>first|exact noS hk|exact⟨_,_,rfl⟩))
 obtain⟨i,j,rfl⟩:=inv;have hk:(if -(2^62)<=i/\i<2^62/\-(2^62)<=j/\j<2^62 then some (Res.ok (pq i (j-i).toNat)) else none)=some r:=hk;split at hk
 ·rename_i hj;cases hk;obtain⟨v,ys,rfl,r1,r2⟩:=a.dw;obtain⟨w,zs,rfl,r3,r4⟩:=r2.dw;cases r4.jd;cases Rep.bC r1;cases Rep.bC r3;exact⟨i,j,rfl,hj,P _ F1 H1 u (M6 i (j-i).toNat)⟩
 ·cases hk
def pX(l:List PV):List PV:=l.mapIdx λ(i:Nat) x=>.tup [.int i,x]
def zY:List PV->Option (Res (List PV))
 |[.lst l]=>some (.ok (pX l))
 |_=>none
theorem FT{f:Fn (List PV)}(h:MA K C tA f):MI K C (V9 K tA) (m1 zY f):=by
 intro F H O Z R' r R e P;refine h.run R e P λl xs F1 H1 hk u a=>?_;have inv:∃ m,l=[.lst m]:=by
  clear P u a
  rcases l with _|⟨x,_|⟨y,l⟩⟩<;>first|exact noS hk|(cases x<;>first|exact noS hk|exact⟨_,rfl⟩)
 obtain⟨l,rfl⟩:=inv;cases hk;obtain⟨v,ys,rfl,r1,r2⟩:=a.dw;cases r2.jd;obtain⟨b,xs,rfl,h1,r1⟩:=Rep.cC r1;have hl:(pX l).length=l.length:=by simp[pX]
 refine⟨b,rfl,⟨xs,u.fh.seq h1⟩,P _ F1 H1 u ⟨λF' H' s s'=>?_,λi F' H' hi s s'=>?_,λi F' H' x H'' hi s s' y=>?_⟩⟩
 ·exact⟨xs,(s.trans s').seq h1,by rw[hl,r1.1];exact Zan _⟩
 ·rw[hl] at hi;exact⟨xs,xs[i]'(by rw[r1.1];exact hi),(s.trans s').seq h1,by simp⟩
 ·obtain⟨p,y,hp,rfl,rfl,hy⟩:=y;have e:=hy xs ((s.trans s').seq h1);obtain⟨q,e2,rq⟩:=r1.got e;have un:=Up.new (o:=.tup [.int i,y]) s' hp;refine⟨_,.tup [.int i,q],un,?_,.tup aN rfl λj x p hx hp'=>?_⟩
  ·unfold pX;rw[Zca,e2];rfl
  ·match j with
   |0=>simp at hx hp';subst hx hp';exact .int
   |1=>simp at hx hp';subst hx hp';exact rq.up (s.trans un.ff)
   |j+2=>simp at hx
def NoO(Z:Rho):Prop:=∀ (j:Nat) q,Z[j]?≠some (some (.ow q))/\Z[j]?≠some (some (.dp q))
def Wr(T:List Nat)(tg:PV->Rho->Option Rho):Prop:=∀ x Z Z',tg x Z=some Z'->Z'.length=Z.length/\(∀ j,j ∉ T->Z'[j]?=Z[j]?)/\(NoO Z->NoO Z')
def WrS(T:List Nat)(tg:List PV->Rho->Option Rho):Prop:=∀ x Z Z',tg x Z=some Z'->Z'.length=Z.length/\(∀ j,j ∉ T->Z'[j]?=Z[j]?)/\(NoO Z->NoO Z')
theorem cP(i:Nat):Wr [i] (gN i):=λx Z Z' e=>by
 cases e;refine⟨by simp,λj hj=>?_,λh j q=>⟨λe=>?_,λe=>?_⟩⟩
 ·rw[Zaw (by simpa using Zbl (by simpa using hj))]
 ·rcases get_set e with⟨_,e2⟩|⟨_,e2⟩
  ·cases e2
  ·exact(h j q).1 e2
 ·rcases get_set e with⟨_,e2⟩|⟨_,e2⟩
  ·cases e2
  ·exact(h j q).2 e2
theorem vH:WrS [] gsNil:=λx Z Z' e=>by
 cases x with
 |nil=>cases e;exact⟨rfl,λ_ _=>rfl,λh=>h⟩
 |cons p l=>cases e
theorem gW{T U:List Nat}{t:PV->Rho->Option Rho}{u:List PV->Rho->Option Rho}(h:Wr T t)(hs:WrS U u):WrS (T++U) (gsCons t u):=λx Z Z' e=>by
 cases x with
 |nil=>cases e
 |cons p l=>
  have e:(match t p Z with
   |some Z'=>u l Z'
   |none=>none)=some Z':=e
  split at e
  ·rename_i Z1 h1;obtain⟨a1,a2,a3⟩:=h p Z Z1 h1;obtain⟨b1,b2,b3⟩:=hs l Z1 Z' e;exact⟨b1.trans a1,λj hj=>(b2 j λz=>hj (ZaJ _ z)).trans (a2 j λz=>hj (Zbm _ z)),λz=>b3 (a3 z)⟩
  ·cases e
theorem zZ{n:Nat}{U:List Nat}{u:List PV->Rho->Option Rho}(hs:WrS U u):Wr U (gT n u):=λx Z Z' e=>by
 unfold gT at e;split at e
 ·split at e
  ·exact hs _ Z Z' e
  ·cases e
 ·cases e
def shOnly:Option Sl->Option Sl
 |some (.sh p)=>some (.sh p)
 |_=>none
def frR(fr:List (Option Nat))(Z:Rho):Rho:=fr.map λo=>match o with
 |some i=>match Z[i]? with
  |some v=>shOnly v
  |none=>none
 |none=>none
def fM(tg:PV->Rho->Option Rho)(tst:Fn Bool)(el:Fn PV)(ρb:Rho):List PV->Option (Res (List PV))
 |[]=>some (.ok [])
 |x::xs=>match tg x ρb with
  |none=>none
  |some Z1=>bnd (tst Z1) λb=>if b=true then bnd (el Z1) λp=>bnd (fM tg tst el ρb xs) λr=>some (.ok (p::r)) else fM tg tst el ρb xs
def gQ(it:Fn (List PV))(fr:List (Option Nat))(tg:PV->Rho->Option Rho)(tst:Fn Bool)(el:Fn PV):Fn PV:=λZ=>bnd (it Z) λl=>
 if l.length<=sizeLine then bnd (fM tg tst el (frR fr Z) l) λr=>some (.ok (.lst r)) else none
def sJ:Fn Bool:=λ_=>some (.ok true)
theorem pA:MT K C YM sJ:=λF H O Z Q r R e P=>by
 cases e;exact P F H (Up.refl R.rb.sub)
theorem RE.block(R:RE K C.toCf F H O Z)(fr:List (Option Nat)):RE K C.toCf F H (frσ fr O) (frR fr Z)/\NoO (frR fr Z):=by
 have nd:∀ (j:Nat) q,(frR fr Z)[j]?≠some (some (.dp q)):=λj q e=>by
  unfold frR at e;rw[Zac] at e;cases e1:fr[j]? with
  |none=>rw[e1] at e;cases e
  |some o=>
   rw[e1] at e;cases o with
   |none=>cases e
   |some i=>
    simp only[Zbu,ZcU] at e;split at e
    ·rename_i v hv;unfold shOnly at e;split at e<;>cases e
    ·cases e
 have no:∀ (j:Nat) q,(frR fr Z)[j]?≠some (some (.ow q)):=λj q e=>by
  unfold frR at e;rw[Zac] at e;cases e1:fr[j]? with
  |none=>rw[e1] at e;cases e
  |some o=>
   rw[e1] at e;cases o with
   |none=>cases e
   |some i=>
    simp only[Zbu,ZcU] at e;split at e
    ·rename_i v hv;unfold shOnly at e;split at e<;>cases e
    ·cases e
 refine⟨⟨R.rb,by unfold frσ frR;simp,λj p e=>?_,λj p e=>absurd e (no j p),λi j p q a e=>absurd e (no i p),_,RD.no nd⟩,λj q=>⟨no j q,nd j q⟩⟩
 unfold frR at e;rw[Zac] at e;unfold frσ;rw[Zac];cases e1:fr[j]? with
 |none=>rw[e1] at e;cases e
 |some o=>
  rw[e1] at e;cases o with
  |none=>cases e
  |some i=>
   simp only[Zbu,ZcU] at e ⊢;split at e
   ·rename_i v hv;unfold shOnly at e;split at e
    ·cases e;obtain⟨w,e2,e3⟩:=R.sh i _ hv;exact⟨w,by rw[e2],e3⟩
    ·cases e
   ·cases e
theorem RE.other(R:RE K C.toCf F H O Z){D:Addr}{o:HO}(hf:F D=none)(h0:C.H0 D=none)(no:NoO Z):RE K C.toCf F (upd H D o) O Z where
 rb:=⟨λb u q=>by rw[aJ (bR q hf)];exact R.rb.sub b u q,λb u q n=>by rw[aJ (bR q h0)];exact R.rb.keep b u q n,R.rb.new,λb hb=>⟨by
  have:=(R.rb.ios b hb);by_cases hbD:b=D
  ·subst hbD;exact absurd h0 this.2
  ·rw[aJ hbD];exact this.1,(R.rb.ios b hb).2⟩⟩
 len:=R.len
 sh:=R.sh
 ow:=λi p e=>absurd e (no i p).1
 dis:=λi j p q a e=>absurd e (no i p).1
 dd:=⟨_,RD.no λi p=>(no i p).2⟩
theorem RE.weak{Z':Rho}(R:RE K C.toCf F H O Z')(hl:Z.length=Z'.length)(h:∀ (j:Nat) s,Z[j]?=some (some s)->Z'[j]?=some (some s)):RE K C.toCf F H O Z where
 rb:=R.rb
 len:=by rw[R.len,hl]
 sh:=λi p e=>R.sh i p (h i _ e)
 ow:=λi p e=>R.ow i p (h i _ e)
 dis:=λi j p q a e e'=>R.dis i j p q a (h i _ e) (h j _ e')
 dd:=let⟨P,d⟩:=R.dd;⟨P,d.own,d.dis,λi j q b z e=>d.ow i j q b z (h j _ e),λi p e=>d.dp i p (h i _ e)⟩
structure ItH(K:Frag)(J:It)(F H:Hp)(l:List PV):Prop where
 stop:∀ F' H',aU F F'->aU F' H'->aU H H'->J.stop l.length H'
 go:∀ i F' H',i<l.length->aU F F'->aU F' H'->aU H H'->J.go i H'
 yld:∀ i F' H' x H'',i<l.length->aU F F'->aU F' H'->aU H H'->J.yld i H' x H''->∃ F'' p,Up F' H' F'' H''/\l[i]?=some p/\Rep K F'' x p
def MIH(K:Frag)(C:Cg)(wi:TI)(f:Fn (List PV)):Prop:=
 ∀ F H O Z R' r,RE K C.toCf F H O Z->f Z=some r->Pr C F (λl=>∀ J F' H',Up F H F' H'->ItH K J F' H' l->R' J H') r->wi O H R'
theorem MI.h{wi:TI}{f:Fn (List PV)}(h:MI K C wi f):MIH K C wi f:=λF H O Z R' r R e P=>
 h F H O Z R' r R e (Pr.mono P (aU.refl _) λl q J F' H' u x=>q J F' H' u ⟨λa b c d _=>x.stop a b c d,λi a b hi c d _=>x.go i a b hi c d,λi a b y z hi c d _=>x.yld i a b y z hi c d⟩)
theorem lU{α β γ:Type}{x:Option (Res α)}{f:α->Option (Res β)}{g:β->Option (Res γ)}:bnd (bnd x f) g=bnd x λa=>bnd (f a) g:=by
 match x with
 |some (.ok a)=>rfl
 |some (.ex z)=>rfl
 |none=>rfl
theorem RJ{wi:TI}{it:Fn (List PV)}{fr:List (Option Nat)}{gt:TG}{tg:PV->Rho->Option Rho}{T:List Nat}{tc:TT}{tst:Fn Bool}{el:Fn PV}(hi:MIH K C wi it)(hg:MG K C gt tg)(hT:Wr T tg)(ht:MT K C tc tst)(he:MJ K C (aF K) te el)
  (hfr:T.all (λj=>fr[j]?==some none)=true:=by rfl):MO K C (Ds wi fr gt tc te) (gQ it fr tg tst el):=by
 intro F H O Z Q r R e P;rcases bM e with⟨z,e1,rfl⟩|⟨l,e1,hk⟩
 ·exact hi F H O Z _ _ R e1 P
 split at hk
 case isFalse=>cases hk
 rename_i hlen;refine hi F H O Z _ _ R e1 λJ F1 H1 u hJ D hD=>?_;have R1:=R.up u;obtain⟨Rb,no⟩:=R1.block fr;have hD0:C.H0 D=none:=R1.rb.vz hD;have hFD:F1 D=none:=u.fh.free hD;have hρ:∀ (j:Nat),j∈T->(frR fr Z)[j]?=some none:=λj hj=>by
  have:=ZaT.mp hfr j hj;unfold frR;rw[Zac,show fr[j]?=some none by simpa using this]
  rfl
 refine⟨λi m O' H'=>∃ F' ys acc,m=l.length-i/\i<=l.length/\aU F1 F'/\(∀ b o,F' b=some o->F1 b=some o\/Frz H1 b o)/\aU H1 H'/\H' D=some (.lst ys)/\F' D=none/\bG K F' ys acc/\acc.length<=i /\
   RE K C.toCf F' H' O' (frR fr Z)/\bnd (fM tg tst el (frR fr Z) (l.drop i)) (λr=>some (.ok (.lst (acc++r))))=some r,
  ⟨l.length,F1,[],[],by simp,Za4 _,aU.refl _,λ_ _ q=>.inl q,dU hD,aN,hFD,.nil,Zan _,Rb.other hFD hD0 no,by rw[ZcN];exact hk⟩,?_⟩
 rintro i m O' H' ⟨F',ys,acc,rfl,hil,s1,fr1,sH,eD,nD,ra,hacc,R',e'⟩;by_cases hlt:i<l.length
 case neg=>
  have ei:i=l.length:=by omega
  subst ei;rw[ZcX] at e';have e':some (Res.ok (PV.lst (acc++[])))=some r:=e';rw[Zbp] at e';cases e';exact .inl ⟨hJ.stop F' H' s1 R'.rb.sub sH,P D F' H' (u.trans ⟨s1,sH,fr1,R'.rb.sub⟩) (u.hh.free hD) nD ⟨ys,eD,ra⟩⟩
 refine .inr ⟨hJ.go i F' H' hlt s1 R'.rb.sub sH,λσ2 H2=>∃ F2 ys acc,aU F1 F2/\(∀ b o,F2 b=some o->F1 b=some o\/Frz H1 b o)/\aU H1 H2/\H2 D=some (.lst ys)/\F2 D=none/\bG K F2 ys acc/\acc.length<=i+1 /\
   RE K C.toCf F2 H2 σ2 (frR fr Z)/\bnd (fM tg tst el (frR fr Z) (l.drop (i+1))) (λr=>some (.ok (.lst (acc++r))))=some r,
  λσ2 H2 ⟨F2,ys,acc,z⟩=>⟨l.length-(i+1),by omega,F2,ys,acc,rfl,hlt,z⟩,λx H'' y=>?_⟩
 obtain⟨F'',p,u2,ep,rx⟩:=hJ.yld i F' H' x H'' hlt s1 R'.rb.sub sH y;have ed:l.drop i=p::l.drop (i+1):=by
  rw[ZbS hlt];rw[Zae hlt] at ep;rw[Zaf ep]
 rw[ed,fM] at e';split at e'
 ·cases e'
 rename_i Z1 h1;obtain⟨w1,w2,w3⟩:=hT p _ Z1 h1;have no1:=w3 no;have weak:∀ (j:Nat) s,(frR fr Z)[j]?=some (some s)->Z1[j]?=some (some s):=λj s ej=>by
  rw[w2 j λz=>by rw[hρ j z] at ej;cases ej];exact ej
 refine hg F'' H'' O' (frR fr Z) x p Z1 _ (R'.up u2) rx h1 λσ1 R1'=>?_;have stay:∀ {F3 H3:Hp},Up F' H' F3 H3->aU F1 F3/\(∀ b o,F3 b=some o->F1 b=some o\/Frz H1 b o)/\aU H1 H3/\H3 D=some (.lst ys)/\F3 D=none/\bG K F3 ys acc:=λ{F3 H3} u3=>by
  refine⟨s1.trans u3.ff,λb o q=>?_,sH.trans u3.hh,u3.hh _ _ eD,?_,ra.up u3.ff⟩
  ·rcases u3.fr b o q with z|z
   ·exact fr1 b o z
   ·exact .inr (z.imp (λz=>sH.free z) id)
  ·cases q:F3 D with
   |none=>rfl
   |some o=>
    rcases u3.fr D o q with z|z|⟨ys,z⟩
    ·rw[nD] at z;cases z
    ·rw[eD] at z;cases z
    ·subst z;have w:=u3.fh _ _ q;rw[u3.hh _ _ eD] at w;cases w
 have Pl:∀ {F3 H3:Hp},Up F' H' F3 H3->∀ {z:PV},r=.ex z->PX C F3 z:=λ{F3 H3} u3 {z} ez=>by
  subst ez;exact PX.up P (u.ff.trans (s1.trans u3.ff))
 rw[lU] at e';rcases bM e' with⟨z',e4,ez⟩|⟨b,e4,e5⟩
 ·exact ht F'' H'' σ1 Z1 _ _ R1' e4 (Pl u2 ez)
 refine ht F'' H'' σ1 Z1 _ _ R1' e4 λF3 H3 u3=>?_;have u23:=u2.trans u3;cases b with
 |false=>
  rw[Zal (by decide)] at e5 ⊢
  obtain⟨a1,a2,a3,a4,a5,a6⟩:=stay u23;exact⟨F3,ys,acc,a1,a2,a3,a4,a5,a6,by omega,(R1'.up u3).weak w1.symm weak,e5⟩
 |true=>
  rw[Zam rfl] at e5 ⊢;rw[lU] at e5;rcases bM e5 with⟨z',e6,ez⟩|⟨q,e6,e7⟩
  ·exact he F3 H3 σ1 Z1 _ _ (R1'.up u3) e6 (Pl u23 ez)
  refine he F3 H3 σ1 Z1 _ _ (R1'.up u3) e6 λv F4 H4 u4 rv=>?_;have u24:=u23.trans u4;obtain⟨a1,a2,a3,a4,a5,a6⟩:=stay u24;refine⟨ys,a4,by rw[a6.1];omega,F4,ys++[v],acc++[q],a1,a2,Du hD a3,aN,a5,a6.snoc rv,by simp;omega,((R1'.up (u3.trans u4)).other a5 hD0 no1).weak w1.symm weak,?_⟩
  rw[lU] at e7;rw[<-e7];congr 1
  funext rr
  show some (Res.ok (PV.lst (acc++[q]++rr)))=some (Res.ok (PV.lst (acc++q::rr)))
  rw[Zbc];rfl
theorem ji{wi:TI}{it:Fn (List PV)}{fr:List (Option Nat)}{gt:TG}{tg:PV->Rho->Option Rho}{T:List Nat}{tc:TT}{tst:Fn Bool}{el:Fn PV}(hi:MI K C wi it)(hg:MG K C gt tg)(hT:Wr T tg)(ht:MT K C tc tst)(he:MJ K C (aF K) te el)
  (hfr:T.all (λj=>fr[j]?==some none)=true:=by rfl):MO K C (Ds wi fr gt tc te) (gQ it fr tg tst el):=RJ hi.h hg hT ht he hfr
end
def tyN:PV->Option String
 |.non=>some "NoneType"
 |.bl _=>some "bool"
 |.int _=>some "int"
 |.str _=>some "str"
 |.tup _=>some "tuple"
 |.lst _=>some "list"
 |.dk _=>some "dict"
 |.dt _=>some "dict"
 |_=>none
def Xu(t T:String):Option Bool:=
 if t=T then some true else
 if T="int" then some (t=="bool") else
 if T="bool"\/T="str"\/T="tuple"\/T="list"\/T="dict" then some false else none
theorem U6{K:Frag}{p:PV}{t T:String}{b:Bool}(h:tyN p=some t)(e:Xu t T=some b):PySem.W.kitOne K (.type t) (.type T)=some b:=by
 have ht:t="NoneType"\/t="bool"\/t="int"\/t="str"\/t="tuple"\/t="list"\/t="dict":=by
  cases p<;>simp[tyN] at h<;>subst h<;>simp
 unfold Xu at e;split at e
 ·rename_i e1;subst e1;cases e;exact QX
 ·split at e
  ·rename_i n1 e1;subst e1;cases e;rcases ht with rfl|rfl|rfl|rfl|rfl|rfl|rfl<;>first|exact absurd rfl n1|kernel_rfl
  ·split at e
   ·rename_i n1 n2 e1;cases e;rcases e1 with rfl|rfl|rfl|rfl|rfl<;>rcases ht with rfl|rfl|rfl|rfl|rfl|rfl|rfl<;>first|exact absurd rfl n1|kernel_rfl
   ·cases e
def isI(p:PV)(T:String):Option Bool:=match tyN p with
 |some t=>Xu t T
 |none=>none
section
variable{X:Cx}
def Zb(K:Frag):List V->Hp->VK->Prop:=λxs H Q=>∃ x p T b,xs=[x,.ty T]/\Rep K H x p/\isI p T=some b/\Q (.bl b) H
theorem qC:jR X (.builtin "isinstance") (Zb X.K):=by
 intro pins s O H xs us Q I rv h;obtain⟨x,p,T,b,rfl,rp,e,q⟩:=h;obtain⟨u,v,rfl,ru,rw'⟩:=rv.two;cases rw';have fin:∀ tk,EP X pins O Q (.bool b) { s with toks:=tk }:=λtk=>⟨.bl b,H,I.tok _,rfl,q⟩;unfold isI at e;split at e
 case h_2=>cases e
 rename_i t ht;have ek:=U6 (K:=X.K) ht e;cases rp with
 |non=>cases ru;cases ht;exact ZbI PySem.W.kitx_none I.kIn True.intro ek (λz=>nomatch z) fin
 |bl=>cases ru;cases ht;exact ZbI PySem.W.kitx_bool I.kIn True.intro ek (λz=>nomatch z) fin
 |int=>obtain⟨t,rfl⟩:=ru;cases ht;exact ZbI PySem.W.kitx_int I.kIn True.intro ek (λz=>nomatch z) fin
 |str=>obtain⟨t,rfl⟩:=ru;cases ht;exact ZbI PySem.W.kitx_str I.kIn True.intro ek (λz=>nomatch z) fin
 |ty=>cases ht
 |tup h=>
  cases ru;cases ht;obtain⟨_,_,⟨o,h1,h2,_⟩,_⟩:=I.tuple (SqT.of h);exact ZbI PySem.W.kitx_tuple I.kIn ⟨o,h1,h2⟩ ek (λz=>nomatch z) fin
 |lst h=>
  cases ru;cases ht;obtain⟨_,_,⟨o,n,h1,h2,_⟩,_⟩:=I.list h;exact ZbI PySem.W.kitx_list I.kIn ⟨o,h1,h2⟩ ek (λz=>nomatch z) fin
 |dk h=>
  cases ru;cases ht;obtain⟨_,_,vs,_,o,es,ep,h1,h2,_⟩:=h.ok I.hok;exact ZbI PySem.W.kitx_dict I.kIn ⟨o,h1,h2.1⟩ ek (λz=>nomatch z) fin
 |dt h=>
  cases ru;cases ht;obtain⟨_,_,vs,_,o,es,ep,h1,h2,_⟩:=h.ok I.hok;exact ZbI PySem.W.kitx_dict I.kIn ⟨o,h1,h2.1⟩ ek (λz=>nomatch z) fin
 |exc=>cases ht
 |exc0=>cases ht
end
section
variable{K:Frag}{C:Cg}{α β γ:Type}{A:Rel α}{B:Rel β}{D:Rel γ}{ta tb:TE}{f:Fn α}{g:Fn β}{rr:List V->Hp->VK->Prop}
def R1M(C:Cg)(A:Rel α)(D:Rel γ)(rr:List V->Hp->VK->Prop)(op:α->Option (Res γ)):Prop:=
 ∀ F H x a res Q,aU F H->A F H x a->op a=some res->Pr C F (λc=>∀ v F' H',Up F H F' H'->D F' H' v c->Q v H') res->rr [x] H Q
theorem gk{op:α->Option (Res γ)}(rule:R1M C A D rr op)(ha:MJ K C A ta f):MJ K C D (tCB rr (kO ta xx)) (m1 op f):=by
 intro F H O Z Q r R e P;refine ha.run R e P λp v F1 H1 hk u a=>?_;exact rule F1 H1 v p r Q u.fh a hk (P.later u)
def R1O(K:Frag)(C:Cg)(A:Rel α)(rr:List V->Hp->VK->Prop)(op:α->Option (Res PV)):Prop:=
 ∀ F H x a res Q,aU F H->A F H x a->op a=some res->Pr C F (λp=>∀ a F' H',Up F H F' H'->H a=none->F' a=none->Own K F' H' a p->Q (.ref a) H') res->rr [x] H Q
theorem nM{op:α->Option (Res PV)}(rule:R1O K C A rr op)(ha:MJ K C A ta f):MO K C (tCB rr (kO ta xx)) (m1 op f):=by
 intro F H O Z Q r R e P;refine ha.run R e P λp v F1 H1 hk u a=>?_;exact rule F1 H1 v p r Q u.fh a hk (P.zO u)
def R2B(C:Cg)(A:Rel α)(B:Rel β)(D:Rel γ)(rr:List V->Hp->VK->Prop)(op:α->β->Option (Res γ)):Prop:=
 ∀ F H x y a b res Q,aU F H->A F H x a->B F H y b->op a b=some res->Pr C F (λc=>∀ v F' H',Up F H F' H'->D F' H' v c->Q v H') res->rr [x,y] H Q
theorem z6{op:α->β->Option (Res γ)}(up:UpM A)(rule:R2B C A B D rr op)(ha:MJ K C A ta f)(hb:MJ K C B tb g):MJ K C D (tCB rr (kO ta (kO tb xx))) (m2 op f g):=by
 intro F H O Z Q r R e P;refine ha.run R e P λp v F1 H1 hk u a=>?_;refine hb.run (R.up u) hk (P.later u) λq w F2 H2 hk2 u2 b=>?_;exact rule F2 H2 v w p q r Q u2.fh (up _ _ _ _ _ _ u2 a) b hk2 (P.later (u.trans u2))
def iW:PV->Option (Res PV)
 |.str z=>if z.length<=sizeLine then some (.ok (.int z.length)) else none
 |.lst l=>some (.ok (.int l.length))
 |.tup l=>some (.ok (.int l.length))
 |_=>none
theorem kZ:R1M C (aH K) (aF K) (λxs H Q=>∃ x n,xs=[x]/\Yz K x H n/\Q (.int n) H) iW:=by
 intro F H x a res Q s ha e P
 match a,e with
 |.str z,e=>
  cases Rep.cB ha;have e:(if z.length<=sizeLine then some (Res.ok (PV.int z.length)) else none)=some res:=e;split at e
  ·rename_i hz;cases e;exact⟨_,_,rfl,⟨hz,rfl⟩,P _ F H (Up.refl s) .int⟩
  ·cases e
 |.lst l,e=>
  cases e;obtain⟨b,xs,rfl,h1,r1⟩:=Rep.cC ha;rw[<-r1.1] at P;exact⟨_,_,rfl,.inl ⟨xs,h1,rfl⟩,P _ F H (Up.refl s) .int⟩
 |.tup l,e=>
  cases e;obtain⟨b,xs,rfl,h1,r1⟩:=Rep.cV ha;rw[<-r1.1] at P;exact⟨_,_,rfl,.inr ⟨xs,h1,rfl⟩,P _ F H (Up.refl s) .int⟩
def FW(p q:PV):Option (Res PV):=match q with
 |.ty T=>match isI p T with
  |some b=>some (.ok (.bl b))
  |none=>none
 |_=>none
theorem RK:R2B C (aH K) (aF K) (aF K) (Zb K) FW:=by
 intro F H x y a b res Q s ha hb e P
 match b,e with
 |.ty T,e=>
  cases Rep.Xk hb;have e:(match isI a T with
   |some b=>some (Res.ok (PV.bl b))
   |none=>none)=some res:=e
  split at e
  ·rename_i k hk;cases e;exact⟨x,a,T,k,rfl,ha,hk,P _ F H (Up.refl s) .bl⟩
  ·cases e
def rG:List PV->Option (List Bool)
 |[]=>some []
 |.bl b::r=>(rG r).map (b::·)
 |_=>none
theorem z7{F:Hp}:∀ {l:List PV}{bs:List Bool}{xs:List V},rG l=some bs->bG K F xs l->xs=bs.map V.bl
 |[],bs,xs,e,r=>by cases e;exact r.jd
 |.bl b::l,bs,xs,e,r=>by
  rw[rG] at e;cases h:rG l with
  |none=>rw[h] at e;cases e
  |some cs=>
   rw[h] at e;cases e;obtain⟨v,ys,rfl,r1,r2⟩:=r.dw;rw[Rep.je r1,z7 h r2];rfl
def DN(l:List PV):Option (Res PV):=match rG l with
 |some bs=>some (.ok (.bl (bs.all id)))
 |none=>none
theorem Zc:R1M C (aV K) (aF K) (λxs H Q=>∃ (p:Addr) (bs:List Bool),xs=[.ref p]/\SqL K H p (bs.map V.bl)/\Q (.bl (bs.all id)) H) DN:=by
 intro F H x a res Q s ha e P;unfold DN at e;split at e
 ·rename_i bs hb;cases e;obtain⟨b,xs,rfl,h1,r1⟩:=ha;rw[z7 hb r1] at h1;exact⟨b,bs,rfl,h1,P _ F H (Up.refl s) .bl⟩
 ·cases e
def FZ(l:List PV):Option (Res PV):=some (.ok (.lst l))
theorem RL:R1O K C (aV K) (λxs H Q=>∃ p ys,xs=[.ref p]/\(SqL K H p ys\/SqT K H p ys)/\∀ l,H l=none->Q (.ref l) (upd H l (.lst ys))) FZ:=by
 intro F H x a res Q s ha e P;cases e;obtain⟨b,xs,rfl,h1,r1⟩:=ha;exact⟨b,xs,rfl,.inl h1,λl hl=>P l F _ (Up.Cz s hl) hl (s.free hl) ⟨_,aN,r1⟩⟩
def oE(f:Fn PV):Fn (List PV):=λZ=>bnd (f Z) yw
def nO(i:Nat):Fn (List PV):=λZ=>bnd (mVL i Z) yw
def RM:PV->Option (Res PV)
 |.int i=>some (.ok (.int (-i)))
 |_=>none
theorem Xv{f:Fn PV}(ha:MJ K C (aF K) ta f):MJ K C (aF K) (tUn (rU λi=>.int (-i)) ta) (m1 RM f):=by
 intro F H O Z Q r R e P;refine ha.run R e P λp v F1 H1 hk u a=>?_
 match p,hk with
 |.int i,hk=>
  cases Rep.bC a;cases hk;exact⟨i,rfl,P _ F1 H1 u .int⟩
end
noncomputable abbrev XR0:Hp->Value->Option Addr->PV->Prop:=λ_ _ _ _=>False
noncomputable abbrev C0(io:Addr->Prop)(H0 F0:Hp):Cg:=⟨⟨io,True,H0,F0,E0⟩,XR0⟩
def startR(ps:List PV)(k:Nat):Rho:=ps.map (λp=>some (.sh p))++List.replicate k none
def fin:Option Out->Option (Res PV)
 |some (.nx _)=>some (.ok .non)
 |some (.rt p)=>some (.ok p)
 |some (.ex z)=>some (.ex z)
 |_=>none
def qb:Option Out->Option (Res PV)
 |some (.ro p)=>some (.ok p)
 |some (.ex z)=>some (.ex z)
 |_=>none
section
variable{K:Frag}{XR:Hp->Value->Option Addr->PV->Prop}{N:List Str}{vs:List V}{H:Hp}{Q:VK}{E:XK}{t:TS}{b:Sn}{m:List PV->Option (Res PV)}
theorem z8{E:XK}{F:Hp}{ps:List PV}{n:Nat}(s:aU F H)(r:bG K F vs ps)(hN:N.length=vs.length+n):RE K ⟨λ_=>False,True,H,F,E⟩ F H (start N vs) (startR ps n) where
 rb:=⟨s,λ_ _ h _=>h,λ_ _ h=>.inl h,λ_ h=>h.elim⟩
 len:=by unfold start startR;rw[Zas,Zas,Zab,Zab,ZbN,ZbN,r.1,hN];have:=r.1;lia
 sh:=λi p e=>by
  unfold startR at e;unfold start;by_cases hi:i<ps.length
  ·rw[Zag (by simpa using hi),Zac] at e
   rw[Zag (by rw[Zab,r.1];exact hi),Zac]
   cases h:ps[i]? with
   |none=>rw[h] at e;cases e
   |some q=>
    rw[h] at e;cases e;obtain⟨x,hx,rx⟩:=r.get h;exact⟨x,by rw[hx];rfl,rx⟩
  ·rw[Zap (by simpa using hi),Zbt] at e
   split at e<;>cases e
 ow:=λi p e=>by
  exfalso;unfold startR at e;by_cases hi:i<ps.length
  ·rw[Zag (by simpa using hi),Zac] at e
   cases h:ps[i]? with
   |none=>rw[h] at e;cases e
   |some q=>rw[h] at e;cases e
  ·rw[Zap (by simpa using hi),Zbt] at e
   split at e<;>cases e
 dd:=⟨_,RD.no λi p e=>by
  unfold startR at e;by_cases hi:i<ps.length
  ·rw[Zag (by simpa using hi),Zac] at e
   cases h:ps[i]? with
   |none=>rw[h] at e;cases e
   |some q=>rw[h] at e;cases e
  ·rw[Zap (by simpa using hi),Zbt] at e
   split at e<;>cases e⟩
 dis:=λi j p q a e=>by
  exfalso;unfold startR at e;by_cases hi:i<ps.length
  ·rw[Zag (by simpa using hi),Zac] at e
   cases h:ps[i]? with
   |none=>rw[h] at e;cases e
   |some q=>rw[h] at e;cases e
  ·rw[Zap (by simpa using hi),Zbt] at e
   split at e<;>cases e
theorem dg{k n:Nat}(hk:N.length=k+n)(hm:∀ ps r,m ps=some r->ps.length=k/\fin (b (startR ps n))=some r)(h:spM K XR0 m vs H Q E)(hS:∀ (io:Addr->Prop) (H0 F0:Hp),(∀ a,¬io a)->MS K (C0 io H0 F0) t b) :
  t { nx:=λ_ H'=>Q .non H',rt:=Q } (start N vs) H:=by
 obtain⟨ps,F,r,s,rp,e,P⟩:=h;obtain⟨hl,e⟩:=hm ps r e;have R:=z8 (E:=E0) (N:=N) (n:=n) s rp (by rw[rp.1,hl];exact hk)
 have up:∀ {F' H':Hp},aU F F'->RB ⟨λ_=>False,True,H,F,E0⟩ F' H'->Up F H F' H':=λs' rb=>⟨s',λc o q=>rb.keep c o q id,rb.new,rb.sub⟩;have M:=hS (λ_=>False) H F (λ_ h=>h);cases ho:b (startR ps n) with
 |none=>rw[ho] at e;cases e
 |some o=>
  rw[ho] at e;refine M F H _ _ _ o R ho ?_;cases o with
  |nx Z=>cases e;exact λF' H' O s' R'=>P .non F' H' (up s' R'.rb) .non
  |rt p=>cases e;exact λv F' H' s' rb rv=>P v F' H' (up s' rb) rv
  |ex z=>exact λ_ _ _ _ _ _ x=>x.elim
  |ro p=>cases e
  |rd p=>cases e
  |bk Z=>cases e
  |ct Z=>cases e
theorem jj{k n:Nat}(hk:N.length=k+n)(hm:∀ ps r,m ps=some r->ps.length=k/\qb (b (startR ps n))=some r)(h:spO K XR0 m vs H Q E)(hS:∀ (io:Addr->Prop) (H0 F0:Hp),(∀ a,¬io a)->MS K (C0 io H0 F0) t b) :
  t { nx:=λ_ H'=>Q .non H',rt:=Q } (start N vs) H:=by
 obtain⟨ps,F,r,s,rp,e,P⟩:=h;obtain⟨hl,e⟩:=hm ps r e;have R:=z8 (E:=E0) (N:=N) (n:=n) s rp (by rw[rp.1,hl];exact hk)
 have up:∀ {F' H':Hp},aU F F'->RB ⟨λ_=>False,True,H,F,E0⟩ F' H'->Up F H F' H':=λs' rb=>⟨s',λc o q=>rb.keep c o q id,rb.new,rb.sub⟩;have M:=hS (λ_=>False) H F (λ_ h=>h);cases ho:b (startR ps n) with
 |none=>rw[ho] at e;cases e
 |some o=>
  rw[ho] at e;refine M F H _ _ _ o R ho ?_;cases o with
  |ro p=>cases e;exact λa F' H' s' rb w n1 n2=>P a F' H' (up s' rb) n2 n1 w
  |ex z=>exact λ_ _ _ _ _ _ x=>x.elim
  |nx Z=>cases e
  |rt p=>cases e
  |rd p=>cases e
  |bk Z=>cases e
  |ct Z=>cases e
theorem dh(h:spM K XR m vs H Q E){k:Nat}(hm:∀ ps r,m ps=some r->ps.length=k):vs.length=k:=by
 obtain⟨ps,F,r,s,rp,e,P⟩:=h;rw[rp.1];exact hm ps r e
theorem jk(h:spO K XR m vs H Q E){k:Nat}(hm:∀ ps r,m ps=some r->ps.length=k):vs.length=k:=by
 obtain⟨ps,F,r,s,rp,e,P⟩:=h;rw[rp.1];exact hm ps r e
end
section
variable{X:Cx}{k:Nat}{N:List Str}{scope:Scope}{cl:List (Str×Addr)}{C:Addr}{s2:Shared}{H2:Hp}{fp:List Addr}
theorem jN:IxR (X.comp N scope cl C s2 H2 fp) (rIx X.K):=aX
theorem Ii:OpR (X.comp N scope cl C s2 H2 fp) (binaryOp .Add) (Ro X.K):=cH
theorem z9(hr:fu k X.A):OpR (X.comp N scope cl C s2 H2 fp) (compareOp .NotIn) (Fx X.K):=Dz hr
end
def Zd(j:Nat):Option Out->Option (Res PV)
 |some (.nx Z)=>match ownAt j Z with
  |some p=>some (.ok p)
  |none=>none
 |_=>none
section
variable{K:Frag}{C:Cg}{N:List Str}{vs:List V}
theorem jV{i:Nat}{x:V}(h:vs[i]?=some x):(start N vs)[i]?=some (some x):=by
 unfold start;rw[Zag (by rw[Zab];exact cF h),Zac,h]
 rfl
def K6:Sn:=λ_=>none
theorem RN:MS K C QB K6:=λ_ _ _ _ _ _ _ e _=>nomatch e
end
theorem Aa:∀ {ns:List Int}{us:List Value},Vals (ns.map V.int) us->IntsAre us ns
 |[],us,r=>by rw[Zcu] at r;cases r;exact .nil
 |n::ns,us,r=>by
  rw[Zaq] at r;cases r with
  |cons r1 r2=>
   obtain⟨t,e⟩:=r1;subst e;exact .cons n t (Aa r2)
def gR:List PV->Option (List Int)
 |[]=>some []
 |.int n::l=>(gR l).map (n::·)
 |_=>none
theorem DP{K:Frag}{F:Hp}:∀ {l:List PV}{ns:List Int}{xs:List V},gR l=some ns->bG K F xs l->xs=ns.map V.int
 |[],ns,xs,h,r=>by
  cases h;exact List.length_eq_zero_iff.mp (by simpa using r.1)
 |.int n::l,ns,xs,h,r=>by
  cases hl:gR l with
  |none=>simp only[gR,hl] at h;cases h
  |some ms=>
   simp only[gR,hl] at h;cases h;obtain⟨v,ys,rfl,r1,r2⟩:=r.dw;cases Rep.bC r1;rw[DP hl r2];rfl
section
def vI:Fn PV:=λ_=>some (.ok (.dk []))
end
theorem Ab:typeLookup (.type "list") "keys"=pure none:=am_miss_of_fast (by decide +kernel)
theorem yQ:typeLookup (.type "tuple") "keys"=pure none:=am_miss_of_fast (by decide +kernel)
theorem jm:entryFor table "dict.update.loop"=some Builtin.«dict.update.loop»:=entryFor_of_tree (by kernel_rfl)
theorem cL:plainId "dict.update.loop"=true:=by decide +kernel
section
variable{prog:Program}{w:World}{A:Around}{E:Value->Shared->Prop}{s:Shared}{a:Addr}{o:Obj}{xs:Array Value}{k:Nat}{name:Str}{Q:Option Value->Shared->Prop}
theorem ut(hx:s.heap.get? a=some o)(hc:o.cls=.type "list")(hdat:o.data=.seq xs k)(hd:o.dict=none)(hmiss:typeLookup (.type "list") name=pure none)(hname:(["__module__","__name__","__qualname__","__doc__","__annotations__"]:List Str).contains name=false)(hA:A.handled=none)
  (h:∀ h' tk,(∀ b ob,s.heap.get? b=some ob->h'.get? b=some ob)->Q none { s with heap:=h',toks:=tk })(hsz:name.length+100<=sizeLine:=by size_fits) :
  wpAny (model prog w) A (getAttr? (.ref a) name) Q E s:=by
 obtain⟨c,dct,dat,sl⟩:=o;simp only at hc hdat hd;subst hc hdat hd;obtain⟨hp,g,d,tk,os⟩:=s;have hT:∀ tk',(⟨hp,g,d,tk',os⟩:Shared).TypeIs (.ref a) "list":=λ_=>⟨_,hx,rfl⟩;have f1:=sub_AttributeError;have f3:=Zcl.lookup;have f4:=Zcl.bind (.ref a);have f5:=am_list_getattr_none;unfold getAttr? getAttrBy? getAttrBy;repeat (any_goals (first|assumption|exact hT _|((with_reducible show wpAny _ _ (call (Value.builtin "list.__getattribute__") _ _) _ _ _);refine call_meets Zcl (hT _) am_entry_list_getattribute (F.args_list_getattribute_2 _ _) (meets_getattribute_miss_list a xs k sl name _ hmiss hname hsz) ⟨hx,hA,λh' tk' e hx'=>?_⟩)|wp_step))
 obtain⟨t',u',he⟩:=hx'.there;show wpAny _ _ (getattributeRaised _ _ _ _ _ _ _) _ _ _
 unfold getattributeRaised;repeat (any_goals (first|assumption|wp_step))
 exact h _ _ hx'.keeps
theorem sO(hx:s.heap.get? a=some o)(hc:o.cls=.type "tuple")(hdat:o.data=.seq xs k)(hd:o.dict=none)(hmiss:typeLookup (.type "tuple") name=pure none)(hname:(["__module__","__name__","__qualname__","__doc__","__annotations__"]:List Str).contains name=false)(hA:A.handled=none)
  (h:∀ h' tk,(∀ b ob,s.heap.get? b=some ob->h'.get? b=some ob)->Q none { s with heap:=h',toks:=tk })(hsz:name.length+100<=sizeLine:=by size_fits) :
  wpAny (model prog w) A (getAttr? (.ref a) name) Q E s:=by
 obtain⟨c,dct,dat,sl⟩:=o;simp only at hc hdat hd;subst hc hdat hd;obtain⟨hp,g,d,tk,os⟩:=s;have hT:∀ tk',(⟨hp,g,d,tk',os⟩:Shared).TypeIs (.ref a) "tuple":=λ_=>⟨_,hx,rfl⟩;have f1:=sub_AttributeError;have f3:=Zce.lookup;have f4:=Zce.bind (.ref a);have f5:=am_tuple_getattr_none;unfold getAttr? getAttrBy? getAttrBy;repeat (any_goals (first|assumption|exact hT _|((with_reducible show wpAny _ _ (call (Value.builtin "tuple.__getattribute__") _ _) _ _ _);refine call_meets Zce (hT _) am_entry_tuple_getattribute (F.args_tuple_getattribute_2 _ _) (meets_getattribute_miss_tuple a xs k sl name _ hmiss hname hsz) ⟨hx,hA,λh' tk' e hx'=>?_⟩)|wp_step))
 obtain⟨t',u',he⟩:=hx'.there;show wpAny _ _ (getattributeRaised _ _ _ _ _ _ _) _ _ _
 unfold getattributeRaised;repeat (any_goals (first|assumption|wp_step))
 exact h _ _ hx'.keeps
end
section
variable{X:Cx}{pins:List (Addr×Obj)}{O:St}{H H':Hp}{s:Shared}{d:Addr}{y v:V}{u r:Value}{A:Around}{E:Value->Shared->Prop}
theorem Pu{Q:Unit->Shared->Prop}(hu:A.units<cLine)(I:Inv X pins O H s)(g:vo H d y v H')(ry:RelV y u)(rv:RelV v r)(h:∀ h' tk,Heap.SameBut d s.heap h'->Inv X pins O H' { s with heap:=h',toks:=tk }->Q () { s with heap:=h',toks:=tk }) :
  wpAny (model X.prog X.w) A (dictSet d u r) Q E s:=by
 rcases g with⟨kvs,k,e,ey,l,eH⟩|⟨kvs,k,b,e,ey,eb,l,eH⟩
 ·subst ey eH;obtain⟨z,hd,vs,rel,dd⟩:=Wb I.hok e;have hz:vs.length<=sizeLine:=by rw[<-rel.length];exact z
  have hl:(putK kvs k v).length<=sizeLine:=by have:=jT kvs k v;omega
  refine wpAny_dictSet_pairs (hsz:=hz) (yt ry) dd λh' dd' hs=>h h' _ hs ?_;have he:∃ q,h'.get? d=some q:=let⟨q,_,_,hq,_⟩:=dd';⟨q,hq⟩;exact vp I (by rw[e];exact True.intro) hs he (Q3 hl hd (rel.put k rv) dd')
 ·subst ey eH;cases (show u=Value.ref b from ry);obtain⟨z,hd,xs,rel,dd⟩:=Q0 I.hok e;have hz:xs.length<=sizeLine:=by rw[<-ZcD rel];exact z
  have hl:(putK kvs k v).length<=sizeLine:=by have:=jT kvs k v;omega
  refine wpAny_dictSet_heap (hsz:=hz) (show(tupleKind (bN X.prog X.w)).room A from hu) (o8 I.hok eb) dd λh' dd' hs=>h h' _ hs ?_;obtain⟨q,es,ep,hq,h2,h3,h4,_,h5⟩:=dd';refine vp I (by rw[e];exact True.intro) hs ⟨q,hq⟩ ⟨hl,hd,_,(rel.put k eb rv).keeps λc ys ec=>?_,q,es,ep,hq,h2,h3,h4,h5⟩
  rw[aJ (Hn ec e (λz=>nomatch z))];exact ec
theorem vo.other(g:vo H d y v H'){b:Addr}(hb:b≠d):H' b=H b:=by
 rcases g with⟨kvs,k,e,ey,l,rfl⟩|⟨kvs,k,b',e,ey,eb,l,rfl⟩
 ·exact aJ hb
 ·exact aJ hb
def DQ(d:Addr):List (V×V)->Hp->(Hp->Prop)->Prop
 |[],H,Q=>Q H
 |(y,v)::r,H,Q=>∃ H',vo H d y v H'/\DQ d r H' Q
def Fl(K:Frag)(H:Hp)(ys:List V)(ps:List (V×V)):Prop:=ys.length=ps.length/\∀ (j:Nat) x p,ys[j]?=some x->ps[j]?=some p->∃ T,x=.ref T/\SqT K H T [p.1,p.2]
theorem SqT.but{K:Frag}{T:Addr}{xs:List V}(h:SqT K H T xs)(hb:∀ b,b≠d->H' b=H b)(hn:T≠d):SqT K H' T xs:=by
 rcases h with(h|⟨o,h⟩)|h
 ·exact .inl (.inl (by rw[hb T hn];exact h))
 ·exact .inl (.inr ⟨o,by rw[hb T hn];exact h⟩)
 ·exact .inr h
theorem RP{it:Addr}{fp:List Addr}{n:Nat}{P:Nat->Value->Prop}{St:Nat->Heap->Prop}{ps:List (V×V)}{R:Result->Shared->Prop}{H0:Hp}(hc:X.calm=true)(W:Walks X.prog X.w A.in1 it fp [it] n P St)(hu:A.in1.units<cLine)
  (hn:ps.length=n)(hd:d ∉ fp)(hit:∀ H,H d≠none->(∀ b,b≠d->H b=H0 b)->zE X pins H it)
  (hp:∀ (i:Nat) v p,P i v->ps[i]?=some p->∃ T,v=.ref T/\T≠d/\SqT X.K H0 T [p.1,p.2]) :
  ∀ (k i:Nat) (s:Shared) (H:Hp),n-i=k->i<=n->St i s.heap->Inv X pins O H s->H d≠none->(∀ b,b≠d->H b=H0 b)->∀ tk,DQ d (ps.drop i) H (λH'=>∀ s',Inv X pins O H' s'->R (.ok (.ret .none)) s') ->
   codeAny (model X.prog X.w) A (.builtin "dict.update.loop" ⟨[.ref d,.ref it,.int i tk,.none],[]⟩) R s:=by
 intro k;induction k with
 |zero=>
  intro i s H hk hi hst I hHd hb tk hR;have hin:i=n:=by omega
  subst hin;refine codeAny_builtin jm ?_;rw[Around.under_plainId cL _];show wpAny _ A.in1 (pyNext (.ref it)>>=_) _ _ s
  refine Zaa (W.done s _ _ hst λh' tk' hk'=>?_);show wpAny _ _ (Builtin.Dict.addKeywords d []>>=_) _ _ _
  rw[List.drop_of_length_le (by omega)] at hR
  exact Zaa (Zah (Zah (hR _ (I.rD hk' λb hb'=>by rw[Za2.mp hb'];exact hit H hHd hb))))
 |succ k ih=>
  intro i s H hk hi hst I hHd hb tk hR;have hlt:i<n:=by omega
  have hlp:i<ps.length:=by omega
  have hdr:ps.drop i=ps[i]::ps.drop (i+1):=ZbS hlp;rw[hdr] at hR;refine codeAny_builtin jm ?_;rw[Around.under_plainId cL _];show wpAny _ A.in1 (pyNext (.ref it)>>=_) _ _ s
  refine Zaa (W.item i s _ _ hlt hst λv h' tk' hP hst' hk'=>?_);obtain⟨T,rfl,hT,hq⟩:=hp i v ps[i] hP (by simp[hlp])
  have I1:Inv X pins O H { s with heap:=h',toks:=tk' }:=I.rD hk' λb hb'=>by rw[Za2.mp hb'];exact hit H hHd hb
  obtain⟨its,rv,ht,_⟩:=I1.tuple (SqT.but hq hb hT);obtain⟨u1,u2,rfl,r1,r2⟩:∃ u1 u2,its=[u1,u2]/\RelV ps[i].1 u1/\RelV ps[i].2 u2:=by
   cases rv with
   |cons a t=>cases t with
    |cons b t=>cases t;exact⟨_,_,rfl,a,b⟩
  obtain⟨H',g,hR⟩:=hR;refine Zaa (wpAny_holding (Zaa (wpAny_tryCatch ?_)));unfold Builtin.Dict.pairItems;refine Zaa (wpAny_typeOf ht.typeIs ?_);rw[Zam (by decide)]
  obtain⟨o,h1,_,m,h2⟩:=ht;refine Zaa (wpAny_seqItems h1 h2 (Zah ?_));show wpAny _ A.in1 (holding [u1,u2] (dictSet d u1 u2)) _ _ _
  refine wpAny_holding (Pu hu I1 g r1 r2 λh2' tk2 hs2 I2=>?_);refine Zah ⟨plainId_quiet cL _,?_⟩;have:=ih (i+1) { s with heap:=h2',toks:=tk2 } H' (by omega) hlt (W.frame _ _ _ hst' λb hb' o e=>(hs2.2 b λz=>hd (by rw[<-z];exact hb')).trans e) I2
   (by rcases g with⟨_,_,_,_,_,rfl⟩|⟨_,_,_,_,_,_,_,rfl⟩<;>rw[aN]<;>simp) (λb hb'=>(vo.other g hb').trans (hb b hb')) 0 hR
  exact this
end
theorem Ij:∀ {xs:List V}{us:List Value}{i:Nat}{u:Value},Vals xs us->us[i]?=some u->∃ x,xs[i]?=some x/\RelV x u
 |[],_,i,u,r,h=>by cases r;simp at h
 |x::xs,_,i,u,r,h=>by
  cases r with
  |cons a t=>
   cases i with
   |zero=>simp at h;subst h;exact⟨x,rfl,a⟩
   |succ i=>obtain⟨y,h1,h2⟩:=Ij (i:=i) t (by simpa using h);exact⟨y,by simpa using h1,h2⟩
def Ga(K:Frag)(n:HO):List V->Hp->VK->Prop:=λxs H Q=>∃ p ys ps,xs=[.ref p]/\(SqL K H p ys\/H p=some (.tup ys))/\Fl K H ys ps/\∀ d,H d=none->DQ d ps (upd H d n) λH'=>Q (.ref d) H'
section
variable{X:Cx}
theorem Ac{n:HO}(hc:X.calm=true)(hu:X.A.units+64<cLine)(hn:n=.dK []\/n=.dT []):jR X (.type "dict") (Ga X.K n):=by
 intro pins s O H xs us Q I rv h;obtain⟨p,ys,ps,rfl,hq,hps,q⟩:=h;obtain⟨u,rfl,ru⟩:=rv.one;cases ru;have hh:X.A.handled=none:=I.ok.hd hc;refine callType_codes (Q₁:=λobj s₁=>obj=.ref s.heap.objs.size/\s₁={ s with heap:=s.heap.push { cls:=.type "dict",data:=.dict #[] } }) F.kt_called_dict (F.kt_typeCall_dict_1 _) F.entry_dict_init (kt_code_dict_new _ ⟨rfl,rfl⟩) ?_;rintro obj s₁ ⟨rfl,rfl⟩;have ok:dG X.prog X.w (upd H s.heap.objs.size n) (s.heap.push { cls:=.type "dict",data:=.dict #[] }) s.heap.objs.size n:=by
  rcases hn with rfl|rfl
  ·exact HF s.heap I.big
  ·exact HJ s.heap I.big
 have hfree:H s.heap.objs.size=none:=I.hok.fresh (Zan _);have I1:Inv X pins O (upd H s.heap.objs.size n) { s with heap:=s.heap.push { cls:=.type "dict",data:=.dict #[] } }:=I.laid (a:=s.heap.objs.size) (o:=n) (t':=s.toks) (λ_ _ q=>Zaj _ q) (Zan _) ok;have q:=q _ hfree;have hd1:(s.heap.push { cls:=.type "dict",data:=.dict #[] }).get? s.heap.objs.size=some { cls:=.type "dict",data:=.dict #[] }:=Zar _ rfl;have tyD:({ s with heap:=s.heap.push { cls:=.type "dict",data:=.dict #[] } }:Shared).TypeIs (.ref s.heap.objs.size) "dict":=⟨_,hd1,rfl⟩;refine⟨tyD,F.args_dict_init_2 _ _,?_⟩;unfold Builtin.«dict.__init__»;refine Zaa ?_;unfold Builtin.Dict.selfAndRest;refine Zaa (wpAny_notOrdered_dict tyD ?_);show wpAny _ _ (pure (s.heap.objs.size,[Value.ref p])) _ _ _
 refine Zah ?_;show wpAny _ _ (Builtin.Dict.updateFrom "dict.__init__" s.heap.objs.size (.ref p) [] .none) _ _ _
 unfold Builtin.Dict.updateFrom;have same:aU H (upd H s.heap.objs.size n):=dU hfree;have hnd:∀ (j:Nat) x pr,ys[j]?=some x->ps[j]?=some pr->∃ T,x=.ref T/\T≠s.heap.objs.size/\SqT X.K (upd H s.heap.objs.size n) T [pr.1,pr.2]:=λj x pr e1 e2=>by
  obtain⟨T,rfl,hT⟩:=hps.2 j x pr e1 e2;obtain⟨its,_,ht,_⟩:=I.tuple hT;exact⟨T,rfl,ZaE ht.lt,same.tup hT⟩
 have fin:∀ (h2:Heap) (tk:Nat) (o:Obj) (St:Nat->Heap->Prop) (its:List Value),(∀ b ob,(s.heap.push { cls:=.type "dict",data:=.dict #[] }).get? b=some ob->h2.get? b=some ob)->Vals ys its ->
   Walks X.prog X.w X.A.in1.in1 h2.objs.size [h2.objs.size,p] [h2.objs.size] its.toArray.size (λi v=>its.toArray[i]?=some v) St->St 0 (h2.push o)->p≠s.heap.objs.size->(∀ b,o.cls≠.ref b) ->
   codeAny (model X.prog X.w) X.A.in1 (.builtin "dict.update.loop" ⟨[.ref s.heap.objs.size,.ref h2.objs.size,.int (0:Nat) 0,.none],[]⟩) (wants (λr s₂=>r=.none/\EP X pins O Q (.ref s.heap.objs.size) s₂) X.xe) { s with heap:=h2.push o,toks:=tk }:=by
  intro h2 tk o St its hk rv W h0 hp _;have I2:Inv X pins O (upd H s.heap.objs.size n) { s with heap:=h2,toks:=tk }:=I1.kept hk;have I3:Inv X pins O (upd H s.heap.objs.size n) { s with heap:=h2.push o,toks:=tk }:=I2.kept (t':=tk) λb ob e=>Zaj _ e;have lt1:s.heap.objs.size<h2.objs.size:=Zau (hk _ _ hd1);have hn2:upd H s.heap.objs.size n h2.objs.size=none:=I2.hok.fresh (Zan _);refine RP (A:=X.A.in1) (ps:=ps) (H0:=upd H s.heap.objs.size n) hc W (show X.A.units+2<cLine by lia) ?_ ?_ (λHx hx1 hx2=>?_) (λi v pr hv hpr=>?_) _ 0 _ _ rfl (Za4 _) h0 I3 (by rw[aN];simp) (λ_ _=>rfl) 0 ?_
  ·rw[List.size_toArray,<-rv.length];exact hps.1.symm
  ·intro z;rcases ZaC.mp z with z|z
   ·exact absurd z (ZaE lt1)
   ·exact absurd (Za2.mp z).symm hp
  ·exact I2.Cv (Zan _) (by rw[hx2 _ (Zb4 lt1)];exact hn2)
  ·rw[Zbg] at hv;obtain⟨y,hy,ry⟩:=Ij rv hv;obtain⟨T,rfl,h1,h2⟩:=hnd i y pr hy hpr;cases ry;exact⟨T,rfl,h1,h2⟩
  ·rw[ZcN];have mono:∀ (ps:List (V×V)) (Hx:Hp) (P1 P2:Hp->Prop),(∀ H,P1 H->P2 H)->DQ s.heap.objs.size ps Hx P1->DQ s.heap.objs.size ps Hx P2:=by
    intro ps;induction ps with
    |nil=>exact λHx P1 P2 hP h=>hP _ h
    |cons a r ih=>exact λHx P1 P2 hP ⟨H',g,h⟩=>⟨H',g,ih _ _ _ hP h⟩
   exact mono _ _ _ _ (λHx hQ s' Is=>⟨rfl,.ref _,Hx,Is,rfl,hQ⟩) q
 rcases hq with hq|hq
 ·obtain⟨its,rv,pl,hz⟩:=I1.list (same.seq hq);have hp:p≠s.heap.objs.size:=λz=>by
   obtain⟨o,m,e,c,_⟩:=pl;rw[z,hd1] at e;cases e;exact absurd (show Value.type "dict"=Value.type "list" from c) (by decide)
  obtain⟨o,m,e,c,dn,dt⟩:=id pl;refine Zaa (wpAny_typeOf (show Shared.TypeIs _ (.ref p) "list" from⟨_,e,c⟩) ?_);rw[Zam (by decide)]
  refine Zaa (ut e c dt dn Ab (by decide +kernel) hh λh2 tk hk=>?_)
  rw[Zam (show(none:Option Value).isNone=true from rfl)];refine Zaa (wpAny_rule (Zaa (wpAny_pyIter_list ((pl.keeps hk).isList) ?_)));refine Zah ⟨plainId_quiet cL _,fin h2 tk _ _ its hk rv (Walks.list (A:=X.A.in1.in1) hh _ p (ZaE (pl.keeps hk).lt) its.toArray) ⟨⟨_,Zar _ rfl,rfl,rfl⟩,(pl.keeps λb ob eb=>Zaj _ (hk b ob eb)).isList⟩ hp (λb z=>nomatch z)⟩
 ·obtain⟨_,its,rv,tn⟩:=(show dG X.prog X.w _ _ p (.tup ys) from I1.hok p _ (same _ _ hq));have hp:p≠s.heap.objs.size:=λz=>by
   obtain⟨⟨o,e,c,_⟩,_⟩:=tn;rw[z,hd1] at e;cases e;exact absurd (show Value.type "dict"=Value.type "tuple" from c) (by decide)
  obtain⟨⟨o,e,c,m,dt⟩,dn⟩:=id tn;refine Zaa (wpAny_typeOf (show Shared.TypeIs _ (.ref p) "tuple" from⟨_,e,c⟩) ?_);rw[Zam (by decide)]
  refine Zaa (sO e c dt (dn o e) yQ (by decide +kernel) hh λh2 tk hk=>?_)
  rw[Zam (show(none:Option Value).isNone=true from rfl)];have tp:({ s with heap:=h2,toks:=tk }:Shared).heap.IsTuple p its.toArray:=⟨o,hk _ _ e,c,m,dt⟩;refine Zaa (wpAny_rule (Zaa (wpAny_pyIter_tuple tp ?_)));refine Zah ⟨plainId_quiet cL _,fin h2 tk _ _ its hk rv (Walks.tuple (A:=X.A.in1.in1) hh _ p (ZaE (Zau (hk _ _ e))) its.toArray) ⟨⟨_,Zar _ rfl,rfl,rfl⟩,⟨o,Zaj _ (hk _ _ e),c,m,dt⟩⟩ hp (λb z=>nomatch z)⟩
end
section
variable{κ:Type}[DecidableEq κ]
def cI:List (κ×PV)->κ->Option PV
 |[],_=>none
 |(a,p)::l,k=>if a=k then some p else cI l k
def gY:List (κ×PV)->κ->PV->List (κ×PV)
 |[],k,p=>[(k,p)]
 |(a,q)::l,k,p=>if a=k then(a,p)::(if(l.any λe=>decide (e.1=k))=true then gY l k p else l) else(a,q)::gY l k p
inductive gH(K:Frag)(F:Hp):List (κ×V)->List (κ×PV)->Prop
 |nil:gH K F [] []
 |cons {k:κ}{v:V}{p:PV}{xs:List (κ×V)}{l:List (κ×PV)} (h:Rep K F v p) (t:gH K F xs l):gH K F ((k,v)::xs) ((k,p)::l)
variable{K:Frag}{F:Hp}{xs:List (κ×V)}{l:List (κ×PV)}{k:κ}
theorem gH.of:∀ {xs:List (κ×V)}{l:List (κ×PV)},xs.map (·.1)=l.map (·.1)->(∀ (j:Nat) x p,xs[j]?=some x->l[j]?=some p->Rep K F x.2 p.2)->gH K F xs l
 |[],[],_,_=>.nil
 |[],_::_,h,_=>by simp at h
 |_::_,[],h,_=>by simp at h
 |(a,v)::xs,(b,p)::l,h,hr=>by
  simp only[Zaq,ZbJ] at h;obtain⟨h1,h2⟩:=h;have h1:a=b:=h1;subst h1;exact .cons (hr 0 _ _ rfl rfl) (gH.of h2 λj x p e1 e2=>hr (j+1) x p (by simpa using e1) (by simpa using e2))
theorem gH.keys(h:gH K F xs l):xs.map (·.1)=l.map (·.1):=by
 induction h with
 |nil=>rfl
 |cons h t ih=>simp[ih]
theorem gH.len(h:gH K F xs l):xs.length=l.length:=by
 have:=ZaY List.length h.keys;simpa using this
theorem gH.at(h:gH K F xs l):∀ (j:Nat) x p,xs[j]?=some x->l[j]?=some p->Rep K F x.2 p.2:=by
 induction h with
 |nil=>intro j x p e;simp at e
 |cons h t ih=>
  intro j x p e1 e2;cases j with
  |zero=>simp at e1 e2;subst e1 e2;exact h
  |succ j=>exact ih j x p (by simpa using e1) (by simpa using e2)
theorem gH.none(h:gH K F xs l)(e:cI l k=none):jE xs k=none:=by
 induction h with
 |nil=>rfl
 |@cons a v p xs l h t ih=>
  unfold cI at e;split at e
  ·cases e
  ·rename_i hk;rw[lW hk];exact ih e
theorem gH.some{p:PV}(h:gH K F xs l)(e:cI l k=some p):∃ v,jE xs k=some v/\Rep K F v p:=by
 induction h with
 |nil=>cases e
 |@cons a v q xs l h t ih=>
  unfold cI at e;split at e
  ·rename_i hk;cases e;exact⟨v,qm hk,h⟩
  ·rename_i hk;obtain⟨w,h1,h2⟩:=ih e;exact⟨w,by rw[lW hk];exact h1,h2⟩
theorem gH.any(h:gH K F xs l):(xs.any λe=>decide (e.1=k))=l.any λe=>decide (e.1=k):=by
 induction h with
 |nil=>rfl
 |cons h t ih=>simp only[Zb7,ih]
theorem gH.repl{v:V}{p:PV}(h:gH K F xs l)(r:Rep K F v p):(l.any λe=>decide (e.1=k))=true->gH K F (xs.map λkv=>if kv.1=k then(kv.1,v) else kv) (gY l k p):=by
 induction h with
 |nil=>intro z;cases z
 |@cons a w q xs l h t ih=>
  intro z;unfold gY;rw[Zaq];by_cases hk:a=k
  ·rw[Zam hk,Zam hk];refine .cons r ?_;by_cases hl:(l.any λe=>decide (e.1=k))=true
   ·rw[Zam hl];exact ih hl
   ·rw[Zal hl];have hx:∀ e∈xs,¬e.1=k:=λe he z=>hl (by rw[<-t.any];exact ZcY.mpr ⟨e,he,by simpa using z⟩)
    rw[show xs.map (λkv=>if kv.1=k then(kv.1,v) else kv)=xs from by
     conv=>rhs;rw[<-List.map_id xs]
     exact Za3 λe he=>by rw[Zal (hx e he)];rfl]
    exact t
  ·rw[Zal hk,Zal hk];refine .cons h (ih ?_);rw[Zb7] at z;simpa[hk] using z
theorem gH.snoc{v:V}{p:PV}(h:gH K F xs l)(r:Rep K F v p):(l.any λe=>decide (e.1=k))=false->gH K F (xs++[(k,v)]) (gY l k p):=by
 induction h with
 |nil=>intro _;exact .cons r .nil
 |@cons a w q xs l h t ih=>
  intro z;rw[Zb7,Bool.or_eq_false_iff] at z;have hk:¬a=k:=by simpa using z.1
  unfold gY;rw[Zal hk];exact .cons h (ih z.2)
theorem gH.put{v:V}{p:PV}(h:gH K F xs l)(r:Rep K F v p):gH K F (putK xs k v) (gY l k p):=by
 unfold putK;by_cases z:(xs.any λe=>decide (e.1=k))=true
 ·rw[Zam z];exact h.repl r (by rw[<-h.any];exact z)
 ·rw[Zal z];exact h.snoc r (by rw[<-h.any];exact Bool.not_eq_true _▸z)
end
def Ad:PV->Option Key
 |.int i=>some (.inl i)
 |.str x=>some (.inr x)
 |_=>none
def gm:List PV->Option (List Key)
 |[]=>some []
 |p::l=>match Ad p,gm l with
  |some k,some ks=>some (k::ks)
  |_,_=>none
def Ik:Key->PV
 |.inl i=>.int i
 |.inr x=>.str x
theorem Ae{K:Frag}{F:Hp}{p:PV}{k:Key}{v:V}(h:Ad p=some k)(r:Rep K F v p):v=kV k:=by
 cases p with
 |int i=>cases h;cases Rep.bC r;rfl
 |str x=>cases h;cases Rep.cB r;rfl
 |_=>cases h
theorem rH{K:Frag}{F:Hp}:∀ {l:List PV}{ks:List Key}{xs:List V},gm l=some ks->bG K F xs l->xs=ks.map kV
 |[],ks,xs,h,r=>by cases h;exact r.jd
 |p::l,ks,xs,h,r=>by
  unfold gm at h;split at h
  ·rename_i k ks' h1 h2;cases h;obtain⟨v,ys,rfl,r1,r2⟩:=r.dw;rw[Ae h1 r1,rH h2 r2];rfl
  ·cases h
def PV.isD:PV->Bool
 |.dk _=>true
 |.dt _=>true
 |_=>false
def DLk(K:Frag)(F H:Hp)(a:Addr):PV->Prop
 |.dk l=>∃ xs,Rd H a (.dK xs)/\xs.map (·.1)=l.map (·.1)/\∀ (j:Nat) x p,xs[j]?=some x->l[j]?=some p->Rep K F x.2 p.2
 |.dt l=>∃ xs,Rd H a (.dT xs)/\xs.map (·.1)=l.map (·.1)/\∀ (j:Nat) x p,xs[j]?=some x->l[j]?=some p->Rep K F x.2 p.2
 |_=>False
theorem DLk.up{K:Frag}{F H F' H':Hp}{a:Addr}{p:PV}(o:DLk K F H a p)(sf:aU F F')(sh:aU H H'):DLk K F' H' a p:=by
 cases p with
 |dk l=>obtain⟨xs,e,r,q⟩:=o;exact⟨xs,e.same sh,r,λj x p a b=>(q j x p a b).up sf⟩
 |dt l=>obtain⟨xs,e,r,q⟩:=o;exact⟨xs,e.same sh,r,λj x p a b=>(q j x p a b).up sf⟩
 |_=>exact o.elim
theorem Own.look{K:Frag}{F H:Hp}{a:Addr}{p:PV}(o:Own K F H a p)(d:p.isD=true):DLk K F H a p:=by
 cases p with
 |dk l=>obtain⟨xs,e,r⟩:=o;exact⟨xs,.inl e,r⟩
 |dt l=>obtain⟨xs,e,r⟩:=o;exact⟨xs,.inl e,r⟩
 |_=>cases d
def aD(K:Frag):Rel PV:=λF H v p=>p.isD=true/\∃ a,v=.ref a/\DLk K F H a p
theorem aD.up{K:Frag}:UpM (aD K):=λ_ _ _ _ _ _ u ⟨h1,b,e,o⟩=>⟨h1,b,e,o.up u.ff u.hh⟩
def asD(p:PV):Option (Res PV):=if p.isD=true then some (.ok p) else none
theorem Rep.own{K:Frag}{F H:Hp}{v:V}{p:PV}(r:Rep K F v p)(s:aU F H)(d:p.isD=true):∃ a,v=.ref a/\DLk K F H a p:=by
 cases r with
 |dk h hl hr=>exact⟨_,rfl,_,h.same s,hl,hr⟩
 |dt h hl hr=>exact⟨_,rfl,_,h.same s,hl,hr⟩
 |_=>cases d
section
variable{K:Frag}{C:Cg}{ta tb tc te:TE}{f g h:Fn PV}
def Af(f:Fn PV):Fn PV:=λZ=>bnd (f Z) asD
def b8(i:Nat):Fn PV:=λZ=>bnd (mVL i Z) asD
theorem Il(h:MJ K C (aF K) ta f):MJ K C (aD K) ta (Af f):=by
 intro F H O Z Q r R e P;refine h.run R e P λp v F1 H1 hk u a=>?_;unfold asD at hk;split at hk
 ·rename_i hd;cases hk;exact P v F1 H1 u ⟨hd,Rep.own a u.fh hd⟩
 ·cases hk
theorem bL(i:Nat):MJ K C (aD K) (lJ i) (b8 i):=by
 intro F H O Z Q r R e P;unfold b8 at e;rcases bM e with⟨z,e1,rfl⟩|⟨p,e1,hk⟩
 ·unfold mVL at e1;split at e1<;>cases e1
 ·unfold asD at hk;split at hk
  case isFalse=>cases hk
  rename_i hd;cases hk;unfold mVL at e1;split at e1
  ·rename_i q hq;cases e1;obtain⟨v,e2,e3⟩:=R.sh i _ hq;exact⟨v,e2,P v F H (Up.refl R.rb.sub) ⟨hd,Rep.own e3 R.rb.sub hd⟩⟩
  ·rename_i q hq;cases e1;obtain⟨a,e2,e3,_⟩:=R.ow i _ hq;exact⟨_,e2,P _ F H (Up.refl R.rb.sub) ⟨hd,a,rfl,e3.look hd⟩⟩
  ·cases e1
def dY:PV->PV->Option (Option PV)
 |.dk l,k=>(Ad k).map (cI l)
 |.dt l,.tup ks=>(gm ks).map (cI l)
 |_,_=>none
theorem qD{F H:Hp}{a:Addr}{d k:PV}{y:V}{r:Option PV}(s:aU F H)(o:DLk K F H a d)(ry:Rep K F y k)(e:dY d k=some r) :
  ∃ o,n6 H a y o/\(r=none->o=none)/\∀ p,r=some p->∃ v,o=some v/\Rep K F v p:=by
 have inv:(∃ l,d=.dk l)\/∃ l ks,d=.dt l/\k=.tup ks:=by
  clear o ry
  cases d<;>first|exact noS e|exact .inl ⟨_,rfl⟩|(cases k<;>first|exact noS e|exact .inr ⟨_,_,rfl,rfl⟩)
 rcases inv with⟨l,rfl⟩|⟨l,ks,rfl,rfl⟩
 ·obtain⟨xs,h1,h2,h3⟩:=o;have D:=gH.of (K:=K) (F:=F) h2 h3;have e:(Ad k).map (cI l)=some r:=e;cases hk:Ad k with
  |none=>rw[hk] at e;cases e
  |some k'=>
   rw[hk] at e;cases e;cases Ae hk ry;exact⟨_,.inl ⟨_,_,h1,rfl,rfl⟩,λn=>D.none n,λp q=>D.some q⟩
 ·obtain⟨xs,h1,h2,h3⟩:=o;have D:=gH.of (K:=K) (F:=F) h2 h3;have e:(gm ks).map (cI l)=some r:=e;cases hk:gm ks with
  |none=>rw[hk] at e;cases e
  |some k'=>
   rw[hk] at e;cases e;obtain⟨b,ys,rfl,hb,rr⟩:=Rep.vy ry;cases rH hk rr;exact⟨_,.inr ⟨_,_,_,h1,rfl,s _ _ hb,rfl⟩,λn=>D.none n,λp q=>D.some q⟩
def gn(d k:PV):Option (Res PV):=match dY d k with
 |some (some p)=>some (.ok p)
 |_=>none
def Wh:R2:=λx y H Q=>∃ a v,x=.ref a/\n6 H a y (some v)/\Q v H
theorem Xw:R2M C (aD K) (aF K) (aF K) Wh gn:=by
 intro F H x y a b res Q s ha hb e P;obtain⟨_,ad,rfl,o⟩:=ha;unfold gn at e;split at e
 ·rename_i p hp;cases e;obtain⟨ov,g,_,g2⟩:=qD s o hb hp;obtain⟨v,rfl,rv⟩:=g2 p rfl;exact⟨ad,v,rfl,g,P v F H (Up.refl s) rv⟩
 ·cases e
def Ag(k d:PV):Option (Res PV):=(dY d k).map λr=>.ok (.bl r.isSome)
def jW(k d:PV):Option (Res PV):=(dY d k).map λr=>.ok (.bl (!r.isSome))
theorem RQ:R2M C (aF K) (aD K) (aF K) (λy x H Q=>∃ a o,x=.ref a/\n6 H a y o/\Q (.bl o.isSome) H) Ag:=by
 intro F H x y a b res Q s ha hb e P;obtain⟨_,ad,rfl,o⟩:=hb;unfold Ag at e;cases hp:dY b a with
 |none=>rw[hp] at e;cases e
 |some r=>
  rw[hp] at e;cases e;obtain⟨ov,g,g1,g2⟩:=qD s o ha hp;have es:ov.isSome=r.isSome:=by
   cases r with
   |none=>rw[g1 rfl];rfl
   |some p=>obtain⟨v,rfl,_⟩:=g2 p rfl;rfl
  exact⟨ad,ov,rfl,g,by rw[es];exact P _ F H (Up.refl s) .bl⟩
theorem vJ:R2M C (aF K) (aD K) (aF K) (λy x H Q=>∃ a o,x=.ref a/\n6 H a y o/\Q (.bl (!o.isSome)) H) jW:=by
 intro F H x y a b res Q s ha hb e P;obtain⟨_,ad,rfl,o⟩:=hb;unfold jW at e;cases hp:dY b a with
 |none=>rw[hp] at e;cases e
 |some r=>
  rw[hp] at e;cases e;obtain⟨ov,g,g1,g2⟩:=qD s o ha hp;have es:ov.isSome=r.isSome:=by
   cases r with
   |none=>rw[g1 rfl];rfl
   |some p=>obtain⟨v,rfl,_⟩:=g2 p rfl;rfl
  exact⟨ad,ov,rfl,g,by rw[es];exact P _ F H (Up.refl s) .bl⟩
theorem DLk.isD{F H:Hp}{a:Addr}{p:PV}(o:DLk K F H a p)(d:p.isD=true):IsD H a:=by
 cases p with
 |dk l=>obtain⟨xs,e,_⟩:=o;exact .inl ⟨xs,e⟩
 |dt l=>obtain⟨xs,e,_⟩:=o;exact .inr ⟨xs,e⟩
 |_=>cases d
def Ah(f g:Fn PV):Fn PV:=λZ=>bnd (f Z) λd=>bnd (g Z) λk=>(dY d k).map λr=>.ok (r.getD .non)
def Ai(f g h:Fn PV):Fn PV:=λZ=>bnd (f Z) λd=>bnd (g Z) λk=>bnd (h Z) λx=>(dY d k).map λr=>.ok (r.getD x)
theorem Im(ha:MJ K C (aD K) ta f)(hb:MJ K C (aF K) tb g):MJ K C (aF K) (KZ ta tb) (Ah f g):=by
 intro F H O Z Q r R e P;refine ha.run R e P ?_;rintro d v F1 H1 hk u ⟨hd,a,ea,o⟩;subst ea;refine⟨a,rfl,o.isD hd,?_⟩;refine hb.run (R.up u) hk (P.later u) λk w F2 H2 hk2 u2 b=>?_;cases hp:dY d k with
 |none=>rw[hp] at hk2;cases hk2
 |some q=>
  rw[hp] at hk2;cases hk2;obtain⟨ov,g,g1,g2⟩:=qD u2.fh (o.up u2.ff u2.hh) b hp;refine⟨ov,g,P _ F2 H2 (u.trans u2) ?_⟩;cases q with
  |none=>rw[g1 rfl];exact .non
  |some p=>obtain⟨v,rfl,rv⟩:=g2 p rfl;exact rv
theorem Io(ha:MJ K C (aD K) ta f)(hb:MJ K C (aF K) tb g)(hc:MJ K C (aF K) tc h):MJ K C (aF K) (K1 ta tb tc) (Ai f g h):=by
 intro F H O Z Q r R e P;refine ha.run R e P ?_;rintro d v F1 H1 hk u ⟨hd,a,ea,o⟩;subst ea;refine⟨a,rfl,o.isD hd,?_⟩;refine hb.run (R.up u) hk (P.later u) λk w F2 H2 hk2 u2 b=>?_;have u12:=u.trans u2;refine hc.run (R.up u12) hk2 (P.later u12) λx z F3 H3 hk3 u3 c=>?_;cases hp:dY d k with
 |none=>rw[hp] at hk3;cases hk3
 |some q=>
  rw[hp] at hk3;cases hk3;have u23:=u2.trans u3;obtain⟨ov,g,g1,g2⟩:=qD u3.fh (o.up u23.ff u23.hh) (Rep.up b u3.ff) hp;refine⟨ov,g,P _ F3 H3 (u12.trans u3) ?_⟩;cases q with
  |none=>rw[g1 rfl];exact c
  |some p=>obtain⟨v,rfl,rv⟩:=g2 p rfl;exact rv
def yR:PV->PV->PV->Option PV
 |.dk l,k,p=>match Ad k with
  |some k=>if l.length<sizeLine then some (.dk (gY l k p)) else none
  |none=>none
 |.dt l,.tup ks,p=>match gm ks with
  |some k=>if l.length<sizeLine then some (.dt (gY l k p)) else none
  |none=>none
 |_,_,_=>none
theorem Gb{F H:Hp}{a:Addr}{d k p d':PV}{y v:V}(s:aU F H)(o:Own K F H a d)(ry:Rep K F y k)(rv:Rep K F v p)(e:yR d k p=some d') :
  ∃ ob,vo H a y v (upd H a ob)/\Own K F (upd H a ob) a d':=by
 have inv:(∃ l,d=.dk l)\/∃ l ks,d=.dt l/\k=.tup ks:=by
  clear o ry rv
  cases d<;>first|exact noS e|exact .inl ⟨_,rfl⟩|(cases k<;>first|exact noS e|exact .inr ⟨_,_,rfl,rfl⟩)
 rcases inv with⟨l,rfl⟩|⟨l,ks,rfl,rfl⟩
 ·obtain⟨xs,h1,h2,h3⟩:=o;have D:=gH.of (K:=K) (F:=F) h2 h3;have e:(match Ad k with|some k=>if l.length<sizeLine then some (PV.dk (gY l k p)) else none|none=>none)=some d':=e
  split at e
  case h_2=>cases e
  rename_i k' hk;split at e
  case isFalse=>cases e
  rename_i hz;cases e;cases Ae hk ry;have D':=D.put (k:=k') rv;exact⟨_,vo.k h1 (by rw[D.len];exact hz),_,aN,D'.keys,D'.at⟩
 ·obtain⟨xs,h1,h2,h3⟩:=o;have D:=gH.of (K:=K) (F:=F) h2 h3;have e:(match gm ks with|some k=>if l.length<sizeLine then some (PV.dt (gY l k p)) else none|none=>none)=some d':=e
  split at e
  case h_2=>cases e
  rename_i k' hk;split at e
  case isFalse=>cases e
  rename_i hz;cases e;obtain⟨b,ys,rfl,hb,rr⟩:=Rep.vy ry;cases rH hk rr;have D':=D.put (k:=k') rv;exact⟨_,vo.t h1 (s _ _ hb) (by rw[D.len];exact hz),_,aN,D'.keys,D'.at⟩
def lq(i:Nat)(fe fk:Fn PV):Sn:=λZ=>fZ (fe Z) λp=>match ownAt i Z with
 |some d=>fZ (fk Z) λk=>match yR d k p with
  |some d'=>some (.nx (Z.set i (some (.ow d'))))
  |none=>none
 |none=>none
theorem mY{i:Nat}{fe fk:Fn PV}(he:MJ K C (aF K) te fe)(hk:MJ K C (aF K) tb fk):MS K C (Q5 (lJ i) tb te) (lq i fe fk):=by
 intro F H O Z D o R e P;refine he.um R e P λp v F1 H1 hk1 u a=>?_;split at hk1
 case h_2=>cases hk1
 rename_i d hd;obtain⟨b,g1,_⟩:=R.ow i _ (bJ hd);refine⟨_,g1,hk.um (R.up u) hk1 (P.up u.ff) λk w F2 H2 hk2 u2 rk=>?_⟩;split at hk2
 case h_2=>cases hk2
 rename_i d' hd';cases hk2;have R2:=R.up (u.trans u2);obtain⟨a',k1,k2,_⟩:=R2.ow i _ (bJ hd);rw[g1] at k1;cases k1;obtain⟨ob,g,w'⟩:=Gb u2.fh k2 rk (Rep.up a u2.ff) hd';exact⟨b,_,rfl,g,P F2 _ O (u.trans u2).ff (R2.write (bJ hd) g1 w')⟩
def Aj:Fn PV:=λ_=>some (.ok (.dt []))
theorem pB:MO K C Q6 vI:=by
 intro F H O Z Q r R e P;cases e;intro p hp;exact P p F _ (Up.Cz R.rb.sub hp) hp (R.rb.sub.free hp) ⟨[],aN,rfl,λj x p h=>by simp at h⟩
theorem vK:MO K C Q7 Aj:=by
 intro F H O Z Q r R e P;cases e;intro p hp;exact P p F _ (Up.Cz R.rb.sub hp) hp (R.rb.sub.free hp) ⟨[],aN,rfl,λj x p h=>by simp at h⟩
def asPair:PV->Option (PV×PV)
 |.tup [a,b]=>some (a,b)
 |_=>none
def jo:List PV->Option (List (PV×PV))
 |[]=>some []
 |p::l=>match asPair p,jo l with
  |some a,some r=>some (a::r)
  |_,_=>none
def eZ(d:PV):List (PV×PV)->Option PV
 |[]=>some d
 |(k,p)::r=>match yR d k p with
  |some d'=>eZ d' r
  |none=>none
theorem Ak{F H:Hp}(s:aU F H):∀ {l:List PV}{ps:List (PV×PV)}{xs:List V},jo l=some ps->bG K F xs l ->
  ∃ vs:List (V×V),Fl K H xs vs/\vs.length=ps.length/\∀ (j:Nat) x p,vs[j]?=some x->ps[j]?=some p->Rep K F x.1 p.1/\Rep K F x.2 p.2
 |[],ps,xs,h,r=>by
  cases h;cases r.jd;exact⟨[],⟨rfl,λj x p e=>by simp at e⟩,rfl,λj x p e=>by simp at e⟩
 |p::l,ps,xs,h,r=>by
  unfold jo at h;split at h
  ·rename_i a r' h1 h2;cases h;obtain⟨v,ys,rfl,r1,r2⟩:=r.dw;obtain⟨vs,g1,g2,g3⟩:=Ak s h2 r2;unfold asPair at h1;split at h1
   ·rename_i pa pb;cases h1;obtain⟨b,zs,rfl,hb,rr⟩:=Rep.cV r1;obtain⟨v1,zs1,rfl,q1,rr⟩:=rr.dw;obtain⟨v2,zs2,rfl,q2,rr⟩:=rr.dw;cases rr.jd;refine⟨(v1,v2)::vs,⟨by simp[g1.1],λj x p e1 e2=>?_⟩,by simp[g2],λj x p e1 e2=>?_⟩
    ·cases j with
     |zero=>simp at e1 e2;subst e1 e2;exact⟨b,rfl,s.tup hb⟩
     |succ j=>exact g1.2 j x p (by simpa using e1) (by simpa using e2)
    ·cases j with
     |zero=>simp at e1 e2;subst e1 e2;exact⟨q1,q2⟩
     |succ j=>exact g3 j x p (by simpa using e1) (by simpa using e2)
   ·cases h1
  ·cases h
theorem Al{F:Hp}{a:Addr}{Q:Hp->Prop}:∀ {ps:List (PV×PV)}{vs:List (V×V)}{H:Hp}{d d':PV},aU F H->F a=none->Own K F H a d->vs.length=ps.length->(∀ (j:Nat) x p,vs[j]?=some x->ps[j]?=some p->Rep K F x.1 p.1/\Rep K F x.2 p.2) ->
  eZ d ps=some d'->(∀ H',aU F H'->(∀ b,b≠a->H' b=H b)->Own K F H' a d'->Q H')->DQ a vs H Q
 |[],vs,H,d,d',s,hn,o,hl,hr,e,q=>by
  cases vs with
  |nil=>cases e;exact q H s (λ_ _=>rfl) o
  |cons v vs=>simp at hl
 |(k,p)::ps,vs,H,d,d',s,hn,o,hl,hr,e,q=>by
  cases vs with
  |nil=>simp at hl
  |cons v vs=>
   unfold eZ at e;split at e
   case h_2=>cases e
   rename_i d1 h1;obtain⟨r1,r2⟩:=hr 0 v (k,p) rfl rfl;obtain⟨ob,g,o1⟩:=Gb s o r1 r2 h1;refine⟨_,g,Al (H:=upd H a ob) (λb u z=>by rw[aJ (bR z hn)];exact s b u z) hn o1 (by simpa using hl) (λj x p e1 e2=>hr (j+1) x p (by simpa using e1) (by simpa using e2)) e λH' s' hb o'=>?_⟩
   exact q H' s' (λb hb'=>(hb b hb').trans (aJ hb')) o'
def pC(d:PV)(l:List PV):Option (Res PV):=match jo l with
 |some ps=>(eZ d ps).map .ok
 |none=>none
theorem Gd{n:HO}{d:PV}(hd:∀ F H a,H a=some n->Own K F H a d):R1O K C (aV K) (Ga K n) (pC d):=by
 intro F H x l res Q s ha e P;obtain⟨b,xs,rfl,h1,r1⟩:=ha;unfold pC at e;split at e
 case h_2=>cases e
 rename_i ps hps;cases hd':eZ d ps with
 |none=>rw[hd'] at e;cases e
 |some d'=>
  rw[hd'] at e;cases e;obtain⟨vs,g1,g2,g3⟩:=Ak (H:=H) s hps r1;refine⟨b,xs,vs,rfl,.inl h1,g1,λa na=>?_⟩;refine Al (F:=F) (s.trans (dU na)) (s.free na) (hd _ _ _ aN) g2 g3 hd' λH' s' hb o'=>?_;exact P a F H' ⟨aU.refl _,λc o q=>by rw[hb c (bR q na),aJ (bR q na)];exact q,λ_ _ q=>.inl q,s'⟩ na (s.free na) o'
theorem M8{F H:Hp}{a:Addr}(h:H a=some (.dK [])):Own K F H a (.dk []):=⟨[],h,rfl,λj x p e=>by simp at e⟩
theorem U7{F H:Hp}{a:Addr}(h:H a=some (.dT [])):Own K F H a (.dt []):=⟨[],h,rfl,λj x p e=>by simp at e⟩
end
section
variable{K:Frag}{C:Cg}{ta tb:TE}{f g:Fn PV}
theorem iz(ha:MJ K C (aD K) ta f)(hb:MJ K C (aF K) tb g):MJ K C (aF K) (Q4 ta tb) (m2 gn f g):=au (r2:=Wh) aD.up Xw ha hb
end
section
variable{X:Cx}
theorem K7{k:Nat}(hr:fu k X.A):OpR X (compareOp .In) (λy x H Q=>∃ a o,x=.ref a/\n6 H a y o/\Q (.bl o.isSome) H):=by
 intro pins s O H x y v u Q I rx ry h;obtain⟨a,o,rfl,g,q⟩:=h;cases ry;exact ZJ (jD hr) I g rx λs3 I3=>⟨.bl o.isSome,H,I3,rfl,q⟩
theorem xM{k:Nat}(hr:fu k X.A):OpR X (compareOp .NotIn) (λy x H Q=>∃ a o,x=.ref a/\n6 H a y o/\Q (.bl (!o.isSome)) H):=by
 intro pins s O H x y v u Q I rx ry h;obtain⟨a,o,rfl,g,q⟩:=h;cases ry;exact UJ (jD hr) I g rx λs3 I3=>⟨.bl (!o.isSome),H,I3,rfl,q⟩
theorem Am{k:Nat}(hr:fu k X.A)(hc:X.calm=true):jR X (.type "dict") (Ga X.K (.dK [])):=Ac hc hr.units (.inl rfl)
theorem K8{k:Nat}(hr:fu k X.A)(hc:X.calm=true):jR X (.type "dict") (Ga X.K (.dT [])):=Ac hc hr.units (.inr rfl)
end
section
variable{X:Cx}{k:Nat}{N:List Str}{scope:Scope}{cl:List (Str×Addr)}{C:Addr}{s2:Shared}{H2:Hp}{fp:List Addr}
theorem An(hr:fu k X.A):OpR (X.comp N scope cl C s2 H2 fp) (compareOp .NotIn) (λy x H Q=>∃ a o,x=.ref a/\n6 H a y o/\Q (.bl (!o.isSome)) H):=xM hr
theorem fB{X:Cx}{k:Nat}{o i:Expr}{pos:Pos}{td ty:TE}(hr:fu k X.A)(ho:PE X o td)(hi:PE X i ty)(hs:Xh i):PE X (.Subscript o i pos) (Q4 td ty):=UT (jD hr) ho hi hs
theorem DR{X:Cx}{k:Nat}{o e:Expr}{apos cpos:Pos}{td ty:TE}(hr:fu k X.A)(ho:PE X o td)(he:PE X e ty)(m:M1 X o "get" apos e cpos):PE X (.Call (.Attribute o "get" apos) [e] [] cpos) (KZ td ty):=Q9 (jD hr) ho he m
theorem DW{X:Cx}{k:Nat}{o e f:Expr}{apos cpos:Pos}{td ty tx:TE}(hr:fu k X.A)(ho:PE X o td)(he:PE X e ty)(hf:PE X f tx)(m:M2 X o "get" apos e f cpos):PE X (.Call (.Attribute o "get" apos) [e,f] [] cpos) (K1 td ty tx):=Ra (jD hr) ho he hf m
end
section
def CR(a b c:Int):Prop:=0<=a/\a<2^30/\-(2^30)<=b/\b<2^30/\0<c/\c<2^30
noncomputable instance(a b c:Int):Decidable (CR a b c):=inferInstanceAs (Decidable (_/\_))
theorem xG{acc:Array Value}{n:Nat}(h:ItemsOf (λi v=>∃ t,v=.int (0+(i:Nat)*1) t) acc n):Vals ((List.range n).map λi=>V.int (i:Nat)) acc.toList:=by
 obtain⟨hs,hv⟩:=h;have go:∀ (l:List Value) (k:Nat),(∀ (i:Nat) v,l[i]?=some v->∃ t,v=Value.int (((k+i:Nat):Int)) t)->Vals ((List.range' k l.length).map λi=>V.int (i:Nat)) l:=by
  intro l;induction l with
  |nil=>intro k _;exact .nil
  |cons v l ih=>
   intro k h;rw[ZaP,List.range'_succ,Zaq];obtain⟨t,e⟩:=h 0 v rfl;refine .cons ⟨t,by rw[e];rfl⟩ (ih (k+1) λi v hv=>?_)
   obtain⟨t,e⟩:=h (i+1) v (by simpa using hv)
   exact⟨t,by rw[e];congr 2;omega⟩
 have:=go acc.toList 0 λi v e=>by
  obtain⟨t,e2⟩:=hv i v (by simpa using e)
  exact⟨t,by rw[e2];congr 1;omega⟩
 rwa [ZaR,hs,<-List.range_eq_range'] at this
end
section
variable{K:Frag}{C:Cg}{ta:TE}{f:Fn PV}
def RT:PV->Option (Res PV)
 |.int i=>some (.ok (.int (Builtin.bitNot i)))
 |_=>none
theorem Xx(ha:MJ K C (aF K) ta f):MJ K C (aF K) (tUn (rU λi=>.int (Builtin.bitNot i)) ta) (m1 RT f):=by
 intro F H O Z Q r R e P;refine ha.run R e P λp v F1 H1 hk u a=>?_
 match p,hk with
 |.int i,hk=>
  cases Rep.bC a;cases hk;exact⟨i,rfl,P _ F1 H1 u .int⟩
end
section
variable{K:Frag}
inductive DX(K:Frag)(F:Hp):List (V×V)->List (PV×PV)->Prop
 |nil:DX K F [] []
 |cons {x y:V}{p q:PV}{xs:List (V×V)}{l:List (PV×PV)} (h1:Rep K F x p) (h2:Rep K F y q) (t:DX K F xs l):DX K F ((x,y)::xs) ((p,q)::l)
theorem DX.up{F F':Hp}{xs:List (V×V)}{l:List (PV×PV)}(h:DX K F xs l)(s:aU F F'):DX K F' xs l:=by
 induction h with
 |nil=>exact .nil
 |cons h1 h2 _ ih=>exact .cons (h1.up s) (h2.up s) ih
end
def POk(K:Frag)(C:Cg)(F:Hp)(D:Ends)(i:Nat)(c:Option (Option V)):Out->Prop
 |.nx Z=>∀ F' H' O,aU F F'->RE K C.toCf F' H' O Z->O[i]?=c->D.nx O H'
 |.bk Z=>∀ F' H' O,aU F F'->RE K C.toCf F' H' O Z->O[i]?=c->D.bk O H'
 |.ct Z=>∀ F' H' O,aU F F'->RE K C.toCf F' H' O Z->O[i]?=c->D.ct O H'
 |o=>PO' K C F D o
def MSk(K:Frag)(C:Cg)(i:Nat)(t:TS)(f:Sn):Prop:=∀ F H O Z D o,RE K C.toCf F H O Z->f Z=some o->POk K C F D i (O[i]?) o->t D O H
def MGk(K:Frag)(C:Cg)(i:Nat)(g:TG)(tg:PV->Rho->Option Rho):Prop:=
 ∀ F H O Z v p Z' Q,RE K C.toCf F H O Z->Rep K F v p->tg p Z=some Z'->(∀ O',RE K C.toCf F H O' Z'->O'[i]?=O[i]?->Q O' H)->g v O H Q
section
variable{K:Frag}{C:Cg}{i:Nat}{te:TE}{F H:Hp}{O:St}{Z:Rho}{D:Ends}{t u:TS}{f g:Sn}{o:Out}{c:Option (Option V)}
theorem POk.up{F1:Hp}(h:POk K C F D i c o)(s:aU F F1):POk K C F1 D i c o:=by
 cases o with
 |nx Z=>exact λF' H' O a=>h F' H' O (s.trans a)
 |bk Z=>exact λF' H' O a=>h F' H' O (s.trans a)
 |ct Z=>exact λF' H' O a=>h F' H' O (s.trans a)
 |rt p=>exact λv F' H' a=>h v F' H' (s.trans a)
 |ro p=>exact λv F' H' a=>h v F' H' (s.trans a)
 |rd p=>exact λv F' H' S a=>h v F' H' S (s.trans a)
 |ex z=>exact PX.up h s
theorem jX(j:Nat)(h:j≠i):MGk K C i (yo j) (gN j):=λF H O Z v p Z' Q R r e k=>by
 cases e;exact k _ (R.set j r) (Zaw h)
theorem MT.RV{tt:TT}{fe:Fn Bool}{Q:Bool->Hp->Prop}{k:Bool->Option Out}(h:MT K C tt fe)(R:RE K C.toCf F H O Z)(hb:fZ (fe Z) k=some o)(P:POk K C F D i c o)
  (go:∀ b F1 H1,k b=some o->Up F H F1 H1->Q b H1):tt O H Q:=by
 rcases cQ hb with⟨z,e,rfl⟩|⟨p,e,hk⟩
 ·exact h F H O Z Q _ R e P
 ·exact h F H O Z Q _ R e λF1 H1 u=>go p F1 H1 hk u
theorem MJ.RV{α:Type}{A:Rel α}{ta:TE}{fe:Fn α}{Q:VK}{k:α->Option Out}(h:MJ K C A ta fe)(R:RE K C.toCf F H O Z)(hb:fZ (fe Z) k=some o)(P:POk K C F D i c o)
  (go:∀ p v F1 H1,k p=some o->Up F H F1 H1->A F1 H1 v p->Q v H1):ta O H Q:=by
 rcases cQ hb with⟨z,e,rfl⟩|⟨p,e,hk⟩
 ·exact h F H O Z Q _ R e P
 ·exact h F H O Z Q _ R e λv F1 H1 u a=>go p v F1 H1 hk u a
theorem mZ{fe:Fn PV}{gt:TG}{tg:PV->Rho->Option Rho}(h:MJ K C (aF K) te fe)(hg:MGk K C i gt tg):MSk K C i (Ou te gt) (cu fe tg):=by
 intro F H O Z D o R e P;refine h.RV R e P λp v F1 H1 hk u a=>?_;split at hk
 ·rename_i Z' h1;cases hk;exact hg F1 H1 O Z v p Z' _ (R.up u) a h1 λO' R' k=>P F1 H1 O' u.ff R' k
 ·cases hk
theorem jO(h1:MSk K C i t f)(h2:MSk K C i u g):MSk K C i (WT t u) (aY f g):=by
 intro F H O Z D o R e P;unfold aY at e;split at e
 ·rename_i Z' h;refine h1 F H O Z _ _ R h ?_;exact λF' H' O' s R' k=>h2 F' H' O' Z' D o R' e (by rw[k];exact P.up s)
 ·rename_i x hx;cases o with
  |nx Z'=>exact absurd e (hx Z')
  |bk Z=>exact h1 F H O _ _ _ R e P
  |ct Z=>exact h1 F H O _ _ _ R e P
  |rt p=>exact h1 F H O _ _ _ R e P
  |ro p=>exact h1 F H O _ _ _ R e P
  |rd p=>exact h1 F H O _ _ _ R e P
  |ex z=>exact h1 F H O _ _ _ R e P
end
def New(H F' H':Hp)(S:Addr->Prop):Prop:=∀ b,S b->H b=none/\F' b=none/\∃ o,H' b=some o/\∀ ys,o≠.tup ys
def MD(K:Frag)(C:Cg)(te:TE)(f:Fn PV):Prop:=
 ∀ F H O Z Q r,RE K C.toCf F H O Z->f Z=some r->Pr C F (λp=>∀ v F' H' S,Up F H F' H'->Dp K F' H' S v p->New H F' H' S->Q v H') r->te O H Q
def spD(K:Frag)(XR:Hp->Value->Option Addr->PV->Prop)(m:List PV->Option (Res PV)):Sp:=λvs H Q E=>∃ ps F r,aU F H/\bG K F vs ps/\m ps=some r/\match r with
 |.ok p=>∀ v F' H' S,Up F H F' H'->Dp K F' H' S v p->New H F' H' S->Q v H'
 |.ex z=>∀ e d F' H',Up F H F' H'->XR F' e d z->E e d H'
section
variable{K:Frag}{C:Cg}{te:TE}{F F1 F2 H H1 H2:Hp}{O:St}{Z:Rho}{D:Ends}{t u:TS}{f g:Sn}{o:Out}{S:Addr->Prop}{v:V}{p:PV}
theorem New.up(n:New H F1 H1 S)(u:Up F1 H1 F2 H2):New H F2 H2 S:=λb q=>by
 obtain⟨n0,n1,o,n2,n3⟩:=n b q;refine⟨n0,?_,o,u.hh _ _ n2,n3⟩;cases e:F2 b with
 |none=>rfl
 |some o'=>
  rcases u.fr b o' e with z|z|⟨ys,z⟩
  ·rw[n1] at z;cases z
  ·rw[n2] at z;cases z
  ·subst z;have w:=u.fh _ _ e;rw[u.hh _ _ n2] at w;cases w;exact absurd rfl (n3 ys)
theorem Dp.stay(d:Dp K F1 H1 S v p)(u:Up F1 H1 F2 H2):Dp K F2 H2 S v p:=d.up u.ff (λb o _ q=>u.hh b o q) λb ys q=>u.hh b _ q
def vL(F H:Hp)(S:Addr->Prop):Hp:=λb=>@ite _ (S b\/∃ ys,H b=some (.tup ys)) (Classical.propDecidable _) (H b) (F b)
theorem iB{b:Addr}(h:S b\/∃ ys,H b=some (.tup ys)):vL F H S b=H b:=@if_pos _ (Classical.propDecidable _) h _ _ _
theorem gq{b:Addr}(h:¬(S b\/∃ ys,H b=some (.tup ys))):vL F H S b=F b:=@if_neg _ (Classical.propDecidable _) h _ _ _
theorem iY(s:aU F H):aU F (vL F H S):=λb o e=>by
 by_cases h:S b\/∃ ys,H b=some (.tup ys)
 ·rw[iB h];exact s b o e
 ·rw[gq h];exact e
theorem qF(s:aU F H):aU (vL F H S) H:=λb o e=>by
 by_cases h:S b\/∃ ys,H b=some (.tup ys)
 ·rw[iB h] at e;exact e
 ·rw[gq h] at e;exact s b o e
theorem Ip(d:Dp K F H S v p)(s:aU F H):Rep K (vL F H S) v p:=
 d.seen (iY s) (λb o q e=>by rw[iB (.inl q)];exact e) λb ys e=>by rw[iB (.inr ⟨ys,e⟩)];exact e
theorem U8(u:Up F H F1 H1)(n:New H F1 H1 S):Up F H (vL F1 H1 S) H1 where
 ff:=u.ff.trans (iY u.fh)
 hh:=u.hh
 fr:=λb o e=>by
  by_cases h:S b\/∃ ys,H1 b=some (.tup ys)
  ·rw[iB h] at e;rcases h with h|⟨ys,h⟩
   ·exact .inr (.inl (n b h).1)
   ·rw[h] at e;cases e;exact .inr (.inr ⟨ys,rfl⟩)
  ·rw[gq h] at e;exact u.fr b o e
 fh:=qF u.fh
theorem Xy{fe:Fn PV}(h:MD K C te fe):MJ K C (aF K) te fe:=λF H O Z Q r R e P=>
 h F H O Z Q r R e (Pr.mono P (aU.refl _) λp q v F' H' S u d n=>q v _ H' (U8 u n) (Ip d u.fh))
def Ir(fe:Fn PV):Fn PV:=λZ=>bnd (fe Z) λp=>match p with
 |.lst l=>if l.all PV.still=true then some (.ok (.lst l)) else none
 |_=>none
theorem Wi{fe:Fn PV}(h:MO K C te fe):MD K C te (Ir fe):=by
 intro F H O Z Q r R e P;rcases bM e with⟨z,e1,rfl⟩|⟨p,e1,hk⟩
 ·exact h F H O Z Q _ R e1 P
 ·split at hk
  ·rename_i l;split at hk
   ·rename_i hl;cases hk;refine h F H O Z Q _ R e1 λa F' H' u n1 n2 w=>?_;obtain⟨xs,e2,e3⟩:=w;refine P _ F' H' (λb=>b=a) u ?_ ?_
    ·refine .lst (S:=λ_ _=>False) e2 rfl (λj b q=>q.elim) (λi j b q=>q.elim) e3.1 λj x p e4 e5=>.fr (e3.2 j x p e4 e5) ?_;exact ZaT.mp hl p (Zak e5)
    ·rintro b rfl;exact⟨n1,n2,_,e2,λys q=>by cases q⟩
   ·cases hk
  ·cases hk
def uv(fe:Fn PV):Fn PV:=λZ=>bnd (fe Z) λp=>if p.still=true then some (.ok p) else none
theorem vM{fe:Fn PV}(h:MJ K C (aF K) te fe):MD K C te (uv fe):=by
 intro F H O Z Q r R e P;rcases bM e with⟨z,e1,rfl⟩|⟨p,e1,hk⟩
 ·exact h F H O Z Q _ R e1 P
 ·split at hk
  ·rename_i hp;cases hk;exact h F H O Z Q _ R e1 λv F' H' u w=>P v F' H' (λ_=>False) u (.fr w hp) λb q=>q.elim
  ·cases hk
theorem vN{t:TA}{fe:Fn (List PV)}{m:List PV->Option (Res PV)}(h:MA K C t fe):MD K C (zJ (spD K C.XR m) [] C.E t) (bF m fe):=by
 intro F H O Z Q r R e P;refine h.run R e P λl xs F1 H1 hk u a=>?_;refine⟨l,F1,r,u.fh,by rw[Zbp];exact a,hk,?_⟩
 cases r with
 |ok p=>exact λv F' H' S u' d n=>P v F' H' S (u.trans u') d λb q=>⟨u.hh.free (n b q).1,(n b q).2⟩
 |ex z=>exact λe d F' H' u' x=>P e d F' H' (u.trans u').ff (R.rb.up (u.trans u')) x
def Dps(K:Frag)(F H:Hp)(S:Nat->Addr->Prop)(xs:List V)(l:List PV):Prop:=
 xs.length=l.length/\(∀ i j b,S i b->S j b->i=j)/\∀ (j:Nat) x p,xs[j]?=some x->l[j]?=some p->Dp K F H (S j) x p
def qG(i:Nat)(Z:Rho):Option PV:=match Z[i]? with
 |some (some (.dp p))=>some p
 |_=>none
theorem di{i:Nat}{p:PV}(h:qG i Z=some p):Z[i]?=some (some (.dp p)):=by
 unfold qG at h;split at h
 ·rename_i q hq;cases h;exact hq
 ·cases h
theorem RE.ZM{C:Cf}(R:RE K C F H O Z)(i:Nat)(u:Up F H F1 H1)(d:Dp K F1 H1 S v p)(n:New H F1 H1 S)(nw:C.nw):RE K C F1 H1 (O.set i (some v)) (Z.set i (some (.dp p))) where
 rb:=R.rb.up u
 len:=by simp[R.len]
 sh:=λj q e=>by
  rcases get_set e with⟨e1,e2⟩|⟨e1,e2⟩
  ·cases e2
  ·obtain⟨w,e3,e4⟩:=(R.up u).sh j q e2;exact⟨w,by rw[Zaw e1];exact e3,e4⟩
 ow:=λj q e=>by
  rcases get_set e with⟨e1,e2⟩|⟨e1,e2⟩
  ·cases e2
  ·obtain⟨w,e3,e4⟩:=(R.up u).ow j q e2;exact⟨w,by rw[Zaw e1];exact e3,e4⟩
 dis:=λj k q q' b e e' f f'=>by
  rcases get_set e with⟨e1,e2⟩|⟨e1,e2⟩
  ·cases e2
  ·rcases get_set e' with⟨e1',e2'⟩|⟨e1',e2'⟩
   ·cases e2'
   ·rw[Zaw e1] at f;rw[Zaw e1'] at f';exact R.dis j k q q' b e2 e2' f f'
 dd:=by
  obtain⟨P,d0⟩:=R.dd;have d1:=d0.up u;refine⟨λj b=>if j=i then S b else P j b,λj b q=>?_,λj k b a1 a2=>?_,λj k q b z e f=>?_,λj q e=>?_⟩
  ·by_cases hj:j=i
   ·simp only[hj,ZbA] at q;obtain⟨c1,c2,c3⟩:=n b q;exact⟨c2,c3,nw,R.rb.vz c1⟩
   ·simp only[hj,Zbb] at q;exact d1.own j b q
  ·by_cases hj:j=i<;>by_cases hk:k=i
   ·rw[hj,hk]
   ·simp only[hj,hk,ZbA,Zbb] at a1 a2;obtain⟨_,⟨o,c,_⟩,_⟩:=d0.own k b a2;rw[(n b a1).1] at c;cases c
   ·simp only[hj,hk,ZbA,Zbb] at a1 a2;obtain⟨_,⟨o,c,_⟩,_⟩:=d0.own j b a1;rw[(n b a2).1] at c;cases c
   ·simp only[hj,hk,Zbb] at a1 a2;exact d0.dis j k b a1 a2
  ·rcases get_set e with⟨e1,e2⟩|⟨e1,e2⟩
   ·cases e2
   ·rw[Zaw e1] at f;by_cases hj:j=i
    ·simp only[hj,ZbA] at z;exact R.apart (n b z).1 k q e2 f
    ·simp only[hj,Zbb] at z;exact d0.ow j k q b z e2 f
  ·rcases get_set e with⟨e1,e2⟩|⟨e1,e2⟩
   ·subst e1;cases e2;have:=cF e;refine⟨v,by rw[Zbd (by rw[R.len];simpa using this)],?_⟩
    simp only[ZbA];exact d
   ·obtain⟨w,e3,e4⟩:=d1.dp j q e2;refine⟨w,by rw[Zaw e1];exact e3,?_⟩
    simp only[Zbl e1,Zbb];exact e4
def sY(i:Nat)(fe:Fn PV):Sn:=λZ=>fZ (fe Z) λp=>some (.nx (Z.set i (some (.dp p))))
theorem pD{i:Nat}{fe:Fn PV}(nw:C.nw)(h:MD K C te fe):MS K C (Ou te (yo i)) (sY i fe):=by
 intro F H O Z D o R e P;rcases cQ e with⟨z,e1,rfl⟩|⟨p,e1,hk⟩
 ·exact h F H O Z _ _ R e1 P
 ·cases hk;exact h F H O Z _ _ R e1 λv F1 H1 S u d n=>P F1 H1 _ u.ff (R.ZM i u d n nw)
theorem RE.RW{C:Cf}(R:RE K C F H O Z){i:Nat}(e:Z[i]?=some (some (.dp p))):∃ S v,O[i]?=some (some v)/\Dp K F H S v p/\(∀ b,S b->F b=none/\(∃ o,H b=some o/\∀ ys,o≠.tup ys)/\C.H0 b=none)/\RE K C (vL F H S) H O (Z.set i (some (.sh p))):=by
 obtain⟨P,d⟩:=R.dd;obtain⟨v,e1,e2⟩:=d.dp i p e;have li:=cF e;have sf:aU F (vL F H (P i)):=iY R.rb.sub;refine⟨P i,v,e1,e2,λb q=>⟨(d.own i b q).1,(d.own i b q).2.1,(d.own i b q).2.2.2⟩,⟨⟨qF R.rb.sub,R.rb.keep,λb o q=>?_,R.rb.ios⟩,by simp[R.len],λj q f=>?_,λj q f=>?_,λj k q q' b f f' g g'=>?_,?_⟩⟩
 ·by_cases h:P i b\/∃ ys,H b=some (.tup ys)
  ·rw[iB h] at q;rcases h with h|⟨ys,h⟩
   ·exact .inr (.inl (d.own i b h).2.2.2)
   ·rw[h] at q;cases q;exact .inr (.inr ⟨ys,rfl⟩)
  ·rw[gq h] at q;exact R.rb.new b o q
 ·rcases get_set f with⟨f1,f2⟩|⟨f1,f2⟩
  ·subst f1;cases f2;exact⟨v,e1,Ip e2 R.rb.sub⟩
  ·obtain⟨w,g1,g2⟩:=R.sh j q f2;exact⟨w,g1,g2.up sf⟩
 ·rcases get_set f with⟨f1,f2⟩|⟨f1,f2⟩
  ·cases f2
  ·obtain⟨b,g1,g2,g3,g4⟩:=R.ow j q f2;refine⟨b,g1,g2.up sf λ_ z=>z,?_,g4⟩;rw[gq]
   ·exact g3
   ·rintro(z|⟨ys,z⟩)
    ·exact d.ow i j q b z f2 g1
    ·exact g2.yu z
 ·rcases get_set f with⟨f1,f2⟩|⟨f1,f2⟩
  ·cases f2
  ·rcases get_set f' with⟨f1',f2'⟩|⟨f1',f2'⟩
   ·cases f2'
   ·exact R.dis j k q q' b f2 f2' g g'
 ·refine⟨λj b=>j≠i/\P j b,λj b z=>?_,λj k b a1 a2=>d.dis j k b a1.2 a2.2,λj k q b z f g=>?_,λj q f=>?_⟩
  ·obtain⟨c1,c2,c3⟩:=d.own j b z.2;refine⟨?_,c2,c3⟩;rw[gq]
   ·exact c1
   ·rintro(y|⟨ys,y⟩)
    ·exact z.1 (d.dis j i b z.2 y)
    ·obtain⟨o,c4,c5⟩:=c2;rw[y] at c4;cases c4;exact c5 ys rfl
  ·rcases get_set f with⟨f1,f2⟩|⟨f1,f2⟩
   ·cases f2
   ·exact d.ow j k q b z.2 f2 g
  ·rcases get_set f with⟨f1,f2⟩|⟨f1,f2⟩
   ·cases f2
   ·obtain⟨w,g1,g2⟩:=d.dp j q f2;refine⟨w,g1,(g2.up sf (λ_ _ _ q=>q) λ_ _ q=>q).mono λb z=>⟨Zbl f1,z⟩⟩
def mFz(i:Nat)(fe:Fn PV):Fn PV:=λZ=>match qG i Z with
 |some p=>bnd (fe (Z.set i (some (.sh p)))) λq=>if q.flat=true then some (.ok q) else none
 |none=>none
theorem Ze{i:Nat}{fe:Fn PV}(h:MJ K C (aF K) te fe):MJ K C (aF K) te (mFz i fe):=by
 intro F H O Z Q r R e P;unfold mFz at e;split at e
 ·rename_i p hp;obtain⟨S,v,_,_,_,R'⟩:=R.RW (di hp);have sf:aU F (vL F H S):=iY R.rb.sub;rcases bM e with⟨z,e1,rfl⟩|⟨q,e1,hk⟩
  ·exact h _ H O _ Q _ R' e1 (PX.up P sf)
  ·split at hk
   ·rename_i hq;cases hk;exact h _ H O _ Q _ R' e1 λw F1 H1 u rw'=>P w F H1 ⟨aU.refl _,u.hh,λ_ _ z=>.inl z,R.rb.sub.trans u.hh⟩ (Rep.free rw' hq)
   ·cases hk
 ·cases e
def uw(i:Nat):Sn:=λZ=>match qG i Z with
 |some p=>some (.rd p)
 |none=>none
theorem Iu(i:Nat):MS K C (Ot (lJ i)) (uw i):=by
 intro F H O Z D o R e P;unfold uw at e;split at e
 ·rename_i p hp;cases e;obtain⟨S,v,e1,e2,e3,_⟩:=R.RW (di hp);exact⟨_,e1,P v F H S (aU.refl _) R.rb e2 e3⟩
 ·cases e
end
section
variable{K:Frag}{C:Cg}{F H:Hp}{O:St}{Z:Rho}{f g:Sn}{o:Out}{S:Addr->Prop}{v:V}{p:PV}
theorem Dp.cC{l:List PV}(d:Dp K F H S v (.lst l)):∃ (T:Nat->Addr->Prop) (a:Addr) (xs:List V),v=.ref a/\H a=some (.lst xs)/\S a/\(∀ j b,T j b->S b/\b≠a)/\Dps K F H T xs l:=by
 cases d with
 |fr h st=>cases st
 |lst h hp hs dj hl hr=>exact⟨_,_,_,rfl,h,hp,hs,hl,dj,hr⟩
theorem RE.Ao{C:Cf}(R:RE K C F H O Z){P:Nat->Addr->Prop}(d:RD K C F H O Z P){i:Nat}(e:Z[i]?=some (some (.dp p)))(e1:O[i]?=some (some v)){a:Addr}{ob:HO}(ha:P i a)(ho:∀ ys,ob≠.tup ys){p':PV}{S':Addr->Prop}
  (hd:Dp K F (upd H a ob) S' v p')(hS:∀ b,S' b->P i b\/(F b=none/\(∃ o,H b=some o/\∀ ys,o≠.tup ys)/\C.nw/\C.H0 b=none/\(∀ j,¬P j b)/\∀ (j:Nat) q,Z[j]?=some (some (.ow q))->O[j]?≠some (some (.ref b)))) :
  RE K C F (upd H a ob) O (Z.set i (some (.dp p'))):=by
 obtain⟨c1,⟨oa,c2,c3⟩,c4,c5⟩:=d.own i a ha;have hio:¬C.io a:=λz=>(R.rb.ios a z).2 c5;refine⟨⟨λb o q=>by rw[aJ (λz=>by subst z;rw[c1] at q;cases q)];exact R.rb.sub b o q,λb o q z=>by rw[aJ (λy=>by subst y;rw[c5] at q;cases q)];exact R.rb.keep b o q z,R.rb.new,λb z=>?_⟩,by simp[R.len],λj q f=>?_,λj q f=>?_,λj k q q' b f f' g g'=>?_,?_⟩
 ·refine⟨?_,(R.rb.ios b z).2⟩;rw[aJ (λy=>by subst y;exact hio z)];exact(R.rb.ios b z).1
 ·rcases get_set f with⟨f1,f2⟩|⟨f1,f2⟩
  ·cases f2
  ·exact R.sh j q f2
 ·rcases get_set f with⟨f1,f2⟩|⟨f1,f2⟩
  ·cases f2
  ·obtain⟨b,g1,g2,g3,g4⟩:=R.ow j q f2;have nb:b≠a:=λz=>by subst z;exact d.ow i j q b ha f2 g1
   refine⟨b,g1,?_,g3,g4⟩;cases q with
   |lst l=>obtain⟨xs,k1,k2⟩:=g2;exact⟨xs,by rw[aJ nb];exact k1,k2⟩
   |dk l=>obtain⟨xs,k1,k2⟩:=g2;exact⟨xs,by rw[aJ nb];exact k1,k2⟩
   |dt l=>obtain⟨xs,k1,k2⟩:=g2;exact⟨xs,by rw[aJ nb];exact k1,k2⟩
   |_=>exact g2.elim
 ·rcases get_set f with⟨f1,f2⟩|⟨f1,f2⟩
  ·cases f2
  ·rcases get_set f' with⟨f1',f2'⟩|⟨f1',f2'⟩
   ·cases f2'
   ·exact R.dis j k q q' b f2 f2' g g'
 ·have up:∀ b o,H b=some o->(∀ ys,o≠.tup ys)->∃ o',upd H a ob b=some o'/\∀ ys,o'≠.tup ys:=λb o q z=>by
   by_cases h:b=a
   ·subst h;exact⟨ob,aN,ho⟩
   ·exact⟨o,by rw[aJ h];exact q,z⟩
  refine⟨λj b=>if j=i then S' b else P j b,λj b z=>?_,λj k b a1 a2=>?_,λj k q b z f g=>?_,λj q f=>?_⟩
  ·by_cases hj:j=i
   ·simp only[hj,ZbA] at z;rcases hS b z with w|⟨w1,⟨o,w2,w2'⟩,w3,w4,_⟩
    ·obtain⟨k1,⟨o,k2,k3⟩,k4⟩:=d.own i b w;exact⟨k1,up b o k2 k3,k4⟩
    ·exact⟨w1,up b o w2 w2',w3,w4⟩
   ·simp only[hj,Zbb] at z;obtain⟨k1,⟨o,k2,k3⟩,k4⟩:=d.own j b z;exact⟨k1,up b o k2 k3,k4⟩
  ·by_cases hj:j=i<;>by_cases hk:k=i
   ·rw[hj,hk]
   ·simp only[hj,hk,ZbA,Zbb] at a1 a2;rcases hS b a1 with w|⟨_,_,_,_,w,_⟩
    ·rw[hj];exact d.dis i k b w a2
    ·exact absurd a2 (w k)
   ·simp only[hj,hk,ZbA,Zbb] at a1 a2;rcases hS b a2 with w|⟨_,_,_,_,w,_⟩
    ·rw[hk];exact d.dis j i b a1 w
    ·exact absurd a1 (w j)
   ·simp only[hj,hk,Zbb] at a1 a2;exact d.dis j k b a1 a2
  ·rcases get_set f with⟨f1,f2⟩|⟨f1,f2⟩
   ·cases f2
   ·by_cases hj:j=i
    ·simp only[hj,ZbA] at z;rcases hS b z with w|⟨_,_,_,_,_,w⟩
     ·exact d.ow i k q b w f2 g
     ·exact w k q f2 g
    ·simp only[hj,Zbb] at z;exact d.ow j k q b z f2 g
  ·rcases get_set f with⟨f1,f2⟩|⟨f1,f2⟩
   ·subst f1;cases f2;refine⟨v,e1,?_⟩;simp only[ZbA];exact hd
   ·obtain⟨w,g1,g2⟩:=d.dp j q f2;refine⟨w,g1,?_⟩;simp only[Zbl f1,Zbb];refine g2.up (aU.refl _) (λb o z q=>?_) λb ys q=>?_
    ·rw[aJ (λy=>by subst y;exact f1 (d.dis i j b ha z))];exact q
    ·rw[aJ (λy=>by subst y;rw[c2] at q;cases q;exact c3 ys rfl)];exact q
end
section
variable{K:Frag}{C:Cg}{te tb:TE}{F F1 F2 H H1 H2:Hp}{O:St}{Z:Rho}{D:Ends}{u:TS}{f:Sn}{o:Out}{S:Addr->Prop}{v:V}{p:PV}
theorem Dp.cV{l:List PV}(d:Dp K F H S v (.tup l))(hl:(PV.tup l).still=false):∃ (T:Nat->Addr->Prop) (a:Addr) (xs:List V),v=.ref a/\H a=some (.tup xs)/\(∀ j b,T j b->S b)/\Dps K F H T xs l:=by
 cases d with
 |fr h st=>rw[hl] at st;cases st
 |tup h hs dj hl hr=>exact⟨_,_,_,rfl,h,hs,hl,dj,hr⟩
theorem Dps.len{T:Nat->Addr->Prop}{xs:List V}{l:List PV}(h:Dps K F H T xs l):xs.length=l.length:=h.1
theorem Dps.put{T:Nat->Addr->Prop}{xs:List V}{l:List PV}(h:Dps K F H T xs l){j:Nat}{b:Addr}{ob:HO}(hb:T j b)(nt:∀ ys,H b≠some (.tup ys)){x:V}{q:PV}(ex:xs[j]?=some x)(d:Dp K F (upd H b ob) (T j) x q):Dps K F (upd H b ob) T xs (l.set j q):=by
 refine⟨by simp[h.1],h.2.1,λk y r e1 e2=>?_⟩
 rcases get_set e2 with⟨f1,f2⟩|⟨f1,f2⟩
 ·subst f1;subst f2;rw[ex] at e1;cases e1;exact d
 ·exact(h.2.2 k y r e1 f2).up (aU.refl _) (λc o z e=>by rw[aJ (λw=>by subst w;exact f1 (h.2.1 j k c hb z))];exact e) λc ys e=>by rw[aJ (λw=>by subst w;exact nt ys e)];exact e
def Iv(i:Nat)(fi fe:Fn PV):Sn:=λZ=>match qG i Z with
 |some (.lst l)=>fZ (fi Z) λk=>match k with
  |.int k=>match ixN l.length k with
   |some j=>match l[j]? with
    |some (.lst row)=>fZ (fe Z) λq=>if q.still=true/\row.length<sizeLine then some (.nx (Z.set i (some (.dp (.lst (l.set j (.lst (row++[q])))))))) else none
    |_=>none
   |none=>none
  |_=>none
 |some (.tup l)=>if(PV.tup l).still=false then fZ (fi Z) λk=>match k with
  |.int k=>match ixN l.length k with
   |some j=>match l[j]? with
    |some (.lst row)=>fZ (fe Z) λq=>if q.still=true/\row.length<sizeLine/\(PV.tup (l.set j (.lst (row++[q])))).still=false then some (.nx (Z.set i (some (.dp (.tup (l.set j (.lst (row++[q])))))))) else none
    |_=>none
   |none=>none
  |_=>none else none
 |_=>none
theorem Dp.snoc{b:Addr}{T:Nat->Addr->Prop}{ys:List V}{row:List PV}{q:PV}(e:H b=some (.lst ys))(sb:S b)(ht:∀ j c,T j c->S c/\c≠b)(d:Dps K F H T ys row)(r:Rep K F v q)(st:q.still=true):Dp K F (upd H b (.lst (ys++[v]))) S (.ref b) (.lst (row++[q])):=by
 refine .lst (S:=λj c=>j<ys.length/\T j c) aN sb (λj c z=>ht j c z.2) (λi j c z z'=>d.2.1 i j c z.2 z'.2) (by simp[d.1]) λj x p e1 e2=>?_
 by_cases hj:j<ys.length
 ·rw[Zag hj] at e1;rw[Zag (by rw[<-d.1];exact hj)] at e2
  refine((d.2.2 j x p e1 e2).up (aU.refl _) (λc o z e=>by rw[aJ (ht j c z).2];exact e) λc zs e'=>?_).mono λc z=>⟨hj,z⟩
  rw[aJ (λw=>by subst w;rw[e] at e';cases e')];exact e'
 ·rw[Zap (by omega)] at e1
  rw[Zap (by rw[<-d.1];omega)] at e2
  have ej:j=ys.length:=by
   have:=cF e1;simp at this;omega
  rw[ej,Zcm] at e1;rw[ej,d.1,Zcm] at e2;cases e1;cases e2;exact .fr r st
theorem U9{i:Nat}{fi fe:Fn PV}(hi:MJ K C (aF K) tb fi)(h:MJ K C (aF K) te fe):MS K C (zB (tBM K "list" u5 (tOp (rIx K) (lJ i) tb) (kO te xx))) (Iv i fi fe):=by
 intro F H O Z D o R e P;unfold Iv at e;split at e
 ·rename_i l hl;obtain⟨S,v,e1,_,_,_⟩:=R.RW (di hl);refine⟨v,e1,hi.um R e P λk w F1 H1 hk u a=>?_⟩;split at hk
  case h_2=>cases hk
  rename_i k;cases Rep.bC a;split at hk
  case h_2=>cases hk
  rename_i j hj;split at hk
  case h_2=>cases hk
  rename_i row hrow;obtain⟨P1,d1⟩:=(R.up u).dd;obtain⟨v',e1',dp1⟩:=d1.dp i _ (di hl);rw[e1] at e1';cases e1';obtain⟨T,a,xs,rfl,ha,sa,ht,ds⟩:=dp1.cC;have hjx:j<xs.length:=by rw[ds.1];exact cF hrow
  obtain⟨x,ex⟩:∃ x,xs[j]?=some x:=⟨_,Zae hjx⟩;obtain⟨T2,b,ys,rfl,hb,sb,ht2,ds2⟩:=(ds.2.2 j x _ ex hrow).cC;refine .inl ⟨a,xs,k,.ref b,rfl,rfl,SqL.of ha,by unfold atI;rw[ds.1,hj];exact ex,tyL hb,?_⟩
  refine h.um (R.up u) hk (P.up u.ff) λq w F2 H2 hk2 u2 rw'=>?_;split at hk2
  case isFalse=>cases hk2
  rename_i hq;cases hk2;have hb2:=u2.hh _ _ hb;refine⟨b,ys,w,rfl,rfl,hb2,by rw[ds2.1];exact hq.2,?_⟩
  have R2:=R.up (u.trans u2);have d2:RD K C.toCf F2 H2 O Z P1:=d1.up u2;have pb:P1 i b:=(ht j b sb).1;have dsx:Dps K F2 H2 T xs l:=⟨ds.1,ds.2.1,λk y r c1 c2=>(ds.2.2 k y r c1 c2).stay u2⟩;have ds2x:Dps K F2 H2 T2 ys row:=⟨ds2.1,ds2.2.1,λk y r c1 c2=>(ds2.2.2 k y r c1 c2).stay u2⟩;have nt:∀ zs,H2 b≠some (.tup zs):=λzs z=>by rw[hb2] at z;cases z
  have nab:a≠b:=λz=>(ht j b sb).2 z.symm;refine P F2 _ O (u.trans u2).ff (R2.Ao d2 (di hl) e1 pb (λys z=>by cases z) (S':=P1 i) ?_ λc z=>.inl z)
  have pu:=dsx.put (q:=.lst (row++[q])) (ob:=.lst (ys++[w])) sb nt ex (Dp.snoc hb2 sb ht2 ds2x rw' hq.1);exact .lst (by rw[aJ nab];exact u2.hh _ _ ha) sa ht pu.2.1 pu.1 pu.2.2
 ·rename_i l hl;split at e
  case isFalse=>cases e
  rename_i hst;obtain⟨S,v,e1,_,_,_⟩:=R.RW (di hl);refine⟨v,e1,hi.um R e P λk w F1 H1 hk u a=>?_⟩;split at hk
  case h_2=>cases hk
  rename_i k;cases Rep.bC a;split at hk
  case h_2=>cases hk
  rename_i j hj;split at hk
  case h_2=>cases hk
  rename_i row hrow;obtain⟨P1,d1⟩:=(R.up u).dd;obtain⟨v',e1',dp1⟩:=d1.dp i _ (di hl);rw[e1] at e1';cases e1';obtain⟨T,a,xs,rfl,ha,ht,ds⟩:=dp1.cV hst;have hjx:j<xs.length:=by rw[ds.1];exact cF hrow
  obtain⟨x,ex⟩:∃ x,xs[j]?=some x:=⟨_,Zae hjx⟩;obtain⟨T2,b,ys,rfl,hb,sb,ht2,ds2⟩:=(ds.2.2 j x _ ex hrow).cC;refine .inr (.inl ⟨a,xs,k,.ref b,rfl,rfl,SqT.of ha,by unfold atI;rw[ds.1,hj];exact ex,tyL hb,?_⟩)
  refine h.um (R.up u) hk (P.up u.ff) λq w F2 H2 hk2 u2 rw'=>?_;split at hk2
  case isFalse=>cases hk2
  rename_i hq;cases hk2;have hb2:=u2.hh _ _ hb;refine⟨b,ys,w,rfl,rfl,hb2,by rw[ds2.1];exact hq.2.1,?_⟩
  have R2:=R.up (u.trans u2);have d2:RD K C.toCf F2 H2 O Z P1:=d1.up u2;have pb:P1 i b:=ht j b sb;have dsx:Dps K F2 H2 T xs l:=⟨ds.1,ds.2.1,λk y r c1 c2=>(ds.2.2 k y r c1 c2).stay u2⟩;have ds2x:Dps K F2 H2 T2 ys row:=⟨ds2.1,ds2.2.1,λk y r c1 c2=>(ds2.2.2 k y r c1 c2).stay u2⟩;have nt:∀ zs,H2 b≠some (.tup zs):=λzs z=>by rw[hb2] at z;cases z
  have nab:a≠b:=λz=>by subst z;rw[u2.hh _ _ ha] at hb2;cases hb2
  refine P F2 _ O (u.trans u2).ff (R2.Ao d2 (di hl) e1 pb (λys z=>by cases z) (S':=P1 i) ?_ λc z=>.inl z)
  have pu:=dsx.put (q:=.lst (row++[q])) (ob:=.lst (ys++[w])) sb nt ex (Dp.snoc hb2 sb ht2 ds2x rw' hq.1);exact .tup (by rw[aJ nab];exact u2.hh _ _ ha) ht pu.2.1 pu.1 pu.2.2
 ·cases e
def Iw(i:Nat)(fe:Fn PV):Sn:=λZ=>match qG i Z with
 |some (.lst l)=>fZ (fe Z) λq=>if l.length<sizeLine then some (.nx (Z.set i (some (.dp (.lst (l++[q])))))) else none
 |_=>none
theorem Va{i:Nat}{fe:Fn PV}(h:MD K C te fe):MS K C (zB (tBM K "list" u5 (lJ i) (kO te xx))) (Iw i fe):=by
 intro F H O Z D o R e P;unfold Iw at e;split at e
 ·rename_i l hl;obtain⟨P0,d0⟩:=R.dd;obtain⟨v0,e1,dp0⟩:=d0.dp i _ (di hl);obtain⟨T,a,xs,rfl,ha,sa,ht,ds⟩:=dp0.cC;refine⟨_,e1,tyL ha,?_⟩;rcases cQ e with⟨z,e2,rfl⟩|⟨q,e2,hk⟩
  ·exact h F H O Z _ _ R e2 P
  split at hk
  case isFalse=>cases hk
  rename_i hlen;cases hk;refine h F H O Z _ _ R e2 λw F1 H1 S u d n=>?_;have ha1:=u.hh _ _ ha;refine⟨a,xs,w,rfl,rfl,ha1,by rw[ds.1];exact hlen,?_⟩
  have R1:=R.up u;have d1:RD K C.toCf F1 H1 O Z P0:=d0.up u;have na:∀ b,S b->b≠a:=λb z y=>by subst y;have:=(n b z).1;rw[ha] at this;cases this
  have nP:∀ b,S b->∀ j,¬P0 j b:=λb z j y=>by obtain⟨_,⟨o,c,_⟩,_⟩:=d0.own j b y;rw[(n b z).1] at c;cases c
  refine P F1 _ O u.ff (R1.Ao d1 (di hl) e1 sa (λys z=>by cases z) (S':=λb=>P0 i b\/S b) ?_ λb z=>?_)
  ·refine .lst (S:=λj b=>if j=xs.length then S b else j<xs.length/\T j b) aN (.inl sa) (λj b z=>?_) (λj k b z z'=>?_) (by simp[ds.1]) λj x p c1 c2=>?_
   ·by_cases hj:j=xs.length
    ·simp only[hj,ZbA] at z;exact⟨.inr z,na b z⟩
    ·simp only[hj,Zbb] at z;exact⟨.inl (ht j b z.2).1,(ht j b z.2).2⟩
   ·by_cases hj:j=xs.length<;>by_cases hk:k=xs.length
    ·rw[hj,hk]
    ·simp only[hj,hk,ZbA,Zbb] at z z';exact absurd (ht k b z'.2).1 (nP b z i)
    ·simp only[hj,hk,ZbA,Zbb] at z z';exact absurd (ht j b z.2).1 (nP b z' i)
    ·simp only[hj,hk,Zbb] at z z';exact ds.2.1 j k b z.2 z'.2
   ·have tups:∀ b zs,H1 b=some (.tup zs)->upd H1 a (.lst (xs++[w])) b=some (.tup zs):=λb zs c=>by
     rw[aJ (λy=>by subst y;rw[ha1] at c;cases c)];exact c
    by_cases hj:j<xs.length
    ·rw[Zag hj] at c1;rw[Zag (by rw[<-ds.1];exact hj)] at c2
     simp only[show ¬j=xs.length by omega,Zbb]
     exact(((ds.2.2 j x p c1 c2).stay u).up (aU.refl _) (λb o z c=>by rw[aJ (ht j b z).2];exact c) tups).mono λb z=>⟨hj,z⟩
    ·rw[Zap (by omega)] at c1
     rw[Zap (by rw[<-ds.1];omega)] at c2
     have ej:j=xs.length:=by
      have:=cF c1;simp at this;omega
     rw[ej,Zcm] at c1;rw[ej,ds.1,Zcm] at c2;cases c1;cases c2;simp only[ej,ZbA];exact d.up (aU.refl _) (λb o z c=>by rw[aJ (na b z)];exact c) tups
  ·rcases z with z|z
   ·exact .inl z
   ·refine .inr ⟨(n b z).2.1,(n b z).2.2,(d0.own i a sa).2.2.1,R.rb.vz (n b z).1,nP b z,λj q f=>?_⟩;exact R.apart (n b z).1 j q f
 ·cases e
end
def xN:Option Out->Option (Res PV)
 |some (.rd p)=>some (.ok p)
 |some (.ex z)=>some (.ex z)
 |_=>none
section
variable{K:Frag}{XR:Hp->Value->Option Addr->PV->Prop}{N:List Str}{vs:List V}{H:Hp}{Q:VK}{E:XK}{t:TS}{b:Sn}{m:List PV->Option (Res PV)}
theorem vO{k n:Nat}(hk:N.length=k+n)(hm:∀ ps r,m ps=some r->ps.length=k/\xN (b (startR ps n))=some r)(h:spD K XR0 m vs H Q E)(hS:∀ (io:Addr->Prop) (H0 F0:Hp),(∀ a,¬io a)->MS K (C0 io H0 F0) t b) :
  t { nx:=λ_ H'=>Q .non H',rt:=Q } (start N vs) H:=by
 obtain⟨ps,F,r,s,rp,e,P⟩:=h;obtain⟨hl,e⟩:=hm ps r e;have R:=z8 (E:=E0) (N:=N) (n:=n) s rp (by rw[rp.1,hl];exact hk)
 have up:∀ {F' H':Hp},aU F F'->RB ⟨λ_=>False,True,H,F,E0⟩ F' H'->Up F H F' H':=λs' rb=>⟨s',λc o q=>rb.keep c o q id,rb.new,rb.sub⟩;have M:=hS (λ_=>False) H F (λ_ h=>h);cases ho:b (startR ps n) with
 |none=>rw[ho] at e;cases e
 |some o=>
  rw[ho] at e;refine M F H _ _ _ o R ho ?_;cases o with
  |rd p=>cases e;exact λv F' H' S s' rb d n=>P v F' H' S (up s' rb) d λb q=>⟨(n b q).2.2,(n b q).1,(n b q).2.1⟩
  |ex z=>exact λ_ _ _ _ _ _ x=>x.elim
  |nx Z=>cases e
  |rt p=>cases e
  |ro p=>cases e
  |bk Z=>cases e
  |ct Z=>cases e
theorem vP(h:spD K XR m vs H Q E){k:Nat}(hm:∀ ps r,m ps=some r->ps.length=k):vs.length=k:=by
 obtain⟨ps,F,r,s,rp,e,P⟩:=h;rw[rp.1];exact hm ps r e
end
end L2.MP
namespace L2
open PySem PySem.Spec PyProof PyProof.Rows
def Itz(K:Frag)(a b:Addr):It:=
 ⟨λi H=>∃ xs ys x y,SqL K H a xs/\SqL K H b ys/\xs[i]?=some x/\ys[i]?=some y,
  λi H x H'=>∃ p u v,H p=none/\x=.ref p/\H'=upd H p (.tup [u,v])/\(∀ xs,SqL K H a xs->xs[i]?=some u)/\∀ ys,SqL K H b ys->ys[i]?=some v,
  λi H=>∃ xs ys,SqL K H a xs/\SqL K H b ys/\(xs.length<=i\/ys.length<=i)⟩
theorem RX{P:Program}{w:World}{K:Frag}{elts:List Expr}{x1:Nat}{pos:Pos}(a b z TI TO i1 i2:Addr)(D:ZipApart z TI TO i1 i2 a b) :
  Turn P w K (.Tuple elts x1 pos) (Itz K a b) [z,TO,i1,i2,TI] z (λi h=>IsZip h z TI TO .none/\IsPair h TI (.ref i1) (.ref i2)/\(∃ c d,IsPair h TO c d)/\h.IsListIter i1 a i/\h.IsListIter i2 b i) where
 mem:=by simp
 obj:=λi h st c hc=>by
  obtain⟨hz,hTI,⟨c',d',hTO⟩,⟨o1,e1,_,d1⟩,⟨o2,e2,_,d2⟩⟩:=st;simp only[ZaC,Zcj,or_false] at hc;rcases hc with rfl|rfl|rfl|rfl|rfl
  ·exact⟨_,hz,λv q=>by cases q⟩
  ·exact⟨_,hTO,λv q=>by cases q⟩
  ·exact⟨o1,e1,λv q=>by rw[d1] at q;cases q⟩
  ·exact⟨o2,e2,λv q=>by rw[d2] at q;cases q⟩
  ·exact⟨_,hTI,λv q=>by cases q⟩
 keep:=λi h h' st k=>by
  obtain⟨hz,hTI,⟨c',d',hTO⟩,h1,h2⟩:=st;exact⟨k z (by simp) _ hz,k TI (by simp) _ hTI,⟨c',d',k TO (by simp) _ hTO⟩,h1.at λo q=>k i1 (by simp) o q,h2.at λo q=>k i2 (by simp) o q⟩
 item:=by
  intro X hP hw hK hc i pins s O H E I hf st hg;subst hP hw hK;obtain⟨xs,ys,x,y,hq,hq',hx,hy⟩:=hg;obtain⟨its,rv,p,_⟩:=I.list hq;obtain⟨its',rv',p',_⟩:=I.list hq';obtain⟨u,hu,ru⟩:=rv.get hx;obtain⟨u',hu',ru'⟩:=rv'.get hy;obtain⟨hz,hTI,⟨c',d',hTO⟩,h1,h2⟩:=st;refine wpAny_pyNext_zip_item D hz hTI hTO h1 h2 p.isList p'.isList (by rw[Zbg];exact hu) (by rw[Zbg];exact hu') λh3 z3 t3 i3 j3 n3 sz3 k3=>?_
  refine⟨_,rfl,wpAny_letOwnedTupleGo_zip z3 λh4 z4 s4=>?_⟩;have zlt:z<s.heap.objs.size:=Zau hz;have hT2:IsPair h4 s.heap.objs.size u u':=(s4.2 _ (Zb4 zlt)).trans n3;have flt:∀ b'∈[z,TO,i1,i2,TI],b'<s.heap.objs.size:=λb' hb=>by
   obtain⟨o1,e1,_⟩:=h1;obtain⟨o2,e2,_⟩:=h2;simp only[ZaC,Zcj,or_false] at hb;rcases hb with rfl|rfl|rfl|rfl|rfl
   ·exact zlt
   ·exact Zau hTO
   ·exact Zau e1
   ·exact Zau e2
   ·exact Zau hTI
  refine⟨.ref s.heap.objs.size,upd H s.heap.objs.size (.tup [x,y]),I.rE (ch:=[z,TO,i1,i2,TI]) (λb' o hb q=>?_) hf (Zan _) ⟨by show 2<=sizeLine;decide,[u,u'],.cons ru (.cons ru' .nil),gb.mk hT2⟩,rfl,⟨_,x,y,I.hok.fresh (Zan _),rfl,rfl,λzs hz'=>by rw[I.qi hz' hq];exact hx,λzs hz'=>by rw[I.qi hz' hq'];exact hy⟩,⟨z4,?_,⟨u,u',(s4.2 _ D.TOz).trans t3⟩,i3.at λo q=>(s4.2 i1 D.i1z).trans q,j3.at λo q=>(s4.2 i2 D.i2z).trans q⟩,λb' hb=>?_⟩
  ·have q1:b'≠z:=λe=>hb (by simp[e])
   have q2:b'≠TO:=λe=>hb (by simp[e])
   have q3:b'≠i1:=λe=>hb (by simp[e])
   have q4:b'≠i2:=λe=>hb (by simp[e])
   exact(s4.2 b' q1).trans (k3 b' o q1 q2 q3 q4 q)
  ·exact(s4.2 _ D.TIz).trans (k3 TI _ D.TIz D.TITO D.TIi1 D.TIi2 hTI)
  ·rw[aJ (ZaE (flt b' hb))];exact(hf b' hb).1
 done:=by
  intro X hP hw hK hc i pins s O H E I hf st hg;subst hP hw hK;obtain⟨xs,ys,hq,hq',hx⟩:=hg;obtain⟨its,rv,p,_⟩:=I.list hq;obtain⟨its',rv',p',_⟩:=I.list hq';obtain⟨hz,hTI,⟨c',d',hTO⟩,h1,h2⟩:=st;have ln:=rv.length;have ln':=rv'.length;refine wpAny_pyNext_zip_end (I.ok.hd hc) D hz hTI hTO h1 h2 p.isList p'.isList (hx.imp (λq=>by rw[Zbg];exact ZbR.mpr (by lia)) λq=>by rw[Zbg];exact ZbR.mpr (by lia)) λh' k=>⟨rfl,?_⟩
  exact I.rD (t':=s.toks) (ch:=[z,TO,i1,i2,TI]) (λb' o hb q=>k b' o (λe=>hb (by simp[e])) (λe=>hb (by simp[e])) (λe=>hb (by simp[e])) (λe=>hb (by simp[e])) q) hf
 self:=λA i s Q E st h=>wpAny_pyIter_zip st.1 h
def Zf(K:Frag)(ta:TA):TI:=λO H R=>ta O H λvs H1=>∃ a b,vs=[.ref a,.ref b]/\(∃ xs,SqL K H1 a xs)/\(∃ ys,SqL K H1 b ys)/\R (Itz K a b) H1
theorem Xz{X:Cx}{l m:Expr}{ta:TA}{elts:List Expr}{x1:Nat}{tpos p pos:Pos}(hg:Gl X "zip")(hm:X.mg "zip"=none)(ha:PA X [l,m] ta)(hs:starEach [l,m] X.env=(false,eval l X.env)::starEach [m] X.env:=by rfl)(hs2:starEach [m] X.env=[(false,eval m X.env)]:=by rfl) :
  PI X (.Tuple elts x1 tpos) (.Call (.Name "zip" p) [l,m] [] pos) (Zf X.K ta):=by
 intro pins s O H R I h;refine Call_ (ue I hg hm boot_zip (Zbr (thn (ha pos pins s O H _ I h) ?_) hs (by rw[hs2];rfl)))
 rintro us s1 ⟨vs,H1,I1,r1,q1⟩;obtain⟨a,b,e,⟨xs,hq⟩,⟨ys,hq'⟩,q⟩:=q1;subst e;cases r1 with
 |cons r rr=>
  cases rr with
  |cons r' rr=>
   cases rr;cases r;cases r';obtain⟨its,rv,p,_⟩:=I1.list hq;obtain⟨its',rv',p',_⟩:=I1.list hq';have la:a<s1.heap.objs.size:=by obtain⟨o,e,_⟩:=p.isList;exact Zau e
   have lb:b<s1.heap.objs.size:=by obtain⟨o,e,_⟩:=p'.isList;exact Zau e
   refine call_zip_2 p.isList p'.isList λh1 hz hTI hTO hi1 hi2 hsz hk=>?_;refine wpAny_pyIter_zip hz ?_;have I2:Inv X pins O H1 { s1 with heap:=h1 }:=I1.kept (t':=s1.toks) hk;refine⟨_,[s1.heap.objs.size+4,s1.heap.objs.size+3,s1.heap.objs.size,s1.heap.objs.size+1,s1.heap.objs.size+2],_,_,H1,rfl,I2,RX a b _ _ _ _ _ (zipApart_new la lb),⟨hz,hTI,⟨_,_,hTO⟩,hi1,hi2⟩,λc hc=>?_,q⟩;have:s1.heap.objs.size<=c:=by
    simp only[ZaC,Zcj,or_false] at hc;rcases hc with rfl|rfl|rfl|rfl|rfl
    ·exact ZcA _ 4
    ·exact ZcA _ 3
    ·exact Zan _
    ·exact ZcA _ 1
    ·exact ZcA _ 2
   exact I1.Cv this (I1.hok.fresh this)
namespace MP
def K9(l m:List PV):List PV:=(l.zip m).map λc=>.tup [c.1,c.2]
def RZ:List PV->Option (Res (List PV))
 |[.lst l,.lst m]=>some (.ok (K9 l m))
 |_=>none
section
variable{K:Frag}{C:Cg}{tA:TA}
theorem XC{f:Fn (List PV)}(h:MA K C tA f):MI K C (Zf K tA) (m1 RZ f):=by
 intro F H O Z R' r R e P;refine h.run R e P λl xs F1 H1 hk u a=>?_;have inv:∃ l' m,l=[.lst l',.lst m]:=by
  clear P u a
  rcases l with _|⟨x,_|⟨y,_|⟨z,l⟩⟩⟩<;>first|exact noS hk|(cases x<;>first|exact noS hk|(cases y<;>first|exact noS hk|exact⟨_,_,rfl⟩))
 obtain⟨l,m,rfl⟩:=inv;cases hk;obtain⟨v,ys,rfl,r1,r2⟩:=a.dw;obtain⟨v',ys',rfl,r2',r3⟩:=r2.dw;cases r3.jd;obtain⟨b,xs,rfl,h1,r1⟩:=Rep.cC r1;obtain⟨b',xs',rfl,h2,r2⟩:=Rep.cC r2';have hl:(K9 l m).length=min l.length m.length:=by simp[K9]
 refine⟨b,b',rfl,⟨xs,u.fh.seq h1⟩,⟨xs',u.fh.seq h2⟩,P _ F1 H1 u ⟨λF' H' s s'=>?_,λi F' H' hi s s'=>?_,λi F' H' x H'' hi s s' y=>?_⟩⟩
 ·refine⟨xs,xs',(s.trans s').seq h1,(s.trans s').seq h2,?_⟩;rw[hl,r1.1,r2.1];lia
 ·rw[hl] at hi;exact⟨xs,xs',xs[i]'(by rw[r1.1];lia),xs'[i]'(by rw[r2.1];lia),(s.trans s').seq h1,(s.trans s').seq h2,by simp,by simp⟩
 ·obtain⟨p,y,y',hp,rfl,rfl,hy,hy'⟩:=y;have e:=hy xs ((s.trans s').seq h1);have e':=hy' xs' ((s.trans s').seq h2);obtain⟨q,e2,rq⟩:=r1.got e;obtain⟨q',e2',rq'⟩:=r2.got e';have un:=Up.new (o:=.tup [y,y']) s' hp;refine⟨_,.tup [q,q'],un,?_,.tup aN rfl λj x p hx hp'=>?_⟩
  ·unfold K9;rw[Zac,show(l.zip m)[i]?=some (q,q') from List.getElem?_zip_eq_some.mpr ⟨e2,e2'⟩];rfl
  ·match j with
   |0=>simp at hx hp';subst hx hp';exact rq.up (s.trans un.ff)
   |1=>simp at hx hp';subst hx hp';exact rq'.up (s.trans un.ff)
   |j+2=>simp at hx
end
end MP
def lu:HO->Prop
 |.dK _=>True
 |.dT _=>True
 |_=>False
section
variable{X:Cx}{pins:List (Addr×Obj)}{O:St}{H:Hp}{s:Shared}{a:Addr}{u:HO}{raw:Obj}
theorem lu.mut(hu:lu u)(e:H a=some u):Mut (H a):=by
 rw[e];cases u<;>first|trivial|exact hu.elim
theorem XD(I:Inv X pins O H s)(e:H a=some u)(hu:lu u):∃ raw,s.heap.get? a=some raw:=by
 have:=I.hok a u e;cases u with
 |dK kvs=>obtain⟨_,_,_,_,o,es,ep,h1,_⟩:=this;exact⟨o,h1⟩
 |dT kvs=>obtain⟨_,_,_,_,o,es,ep,h1,_⟩:=this;exact⟨o,h1⟩
 |_=>exact hu.elim
theorem Inv.hold(I:Inv X pins O H s)(e:H a=some u)(hu:lu u):∃ raw,s.heap.get? a=some raw/\Inv X pins O (upd H a (.frz raw u)) s:=by
 obtain⟨raw,hr⟩:=XD I e hu;refine⟨raw,hr,I.write (t':=s.toks) (h':=s.heap) (hu.mut e) (.inl rfl) (λb o _ q=>q) ⟨raw,hr⟩ ⟨hr,?_⟩⟩;refine(I.hok a u e).stay (λb o _ q=>q) (λb q=>?_) λb xs q=>?_
 ·rw[aJ (λz=>by subst z;rw[e] at q;cases q;exact hu)];exact q
 ·rw[aJ (λz=>by subst z;rw[e] at q;cases q;exact hu)];exact q
theorem Inv.loose(I:Inv X pins O H s)(e:H a=some (.frz raw u))(hu:lu u)(h0:∀ o v,X.H₀ a≠some (.frz o v)):Inv X pins O (upd H a u) s where
 ok:=I.ok
 os:=I.os
 bare:=I.bare
 base:={
  keep:=I.base.keep
  slot:=I.base.slot
  free:=λb o q n hx=>by
   have:=I.base.free b o q n hx;rw[aJ (λz=>by subst z;rw[e] at this;cases this)];exact this
  there:=I.base.there
  tups:=λb xs q=>by
   have:=I.base.tups b xs q;rw[aJ (λz=>by subst z;rw[e] at this;cases this)];exact this
  frzs:=λb o v q=>by
   rw[aJ (λz=>by subst z;exact h0 o v q)];exact I.base.frzs b o v q
  tbls:=λb ps q=>by
   obtain⟨more,r⟩:=I.base.tbls b ps q;exact⟨more,by rw[aJ (λz=>by subst z;rw[e] at r;cases r)];exact r⟩ }
 loc:=I.loc
 cell:=I.cell
 free:=by rw[aJ (λz=>by have:=I.free;rw[z,e] at this;cases this)];exact I.free
 freeC:=λx c q=>by
  have:=I.freeC x c q;rw[aJ (λz=>by subst z;rw[e] at this;cases this)];exact this
 pin:=λp hp=>by
  obtain⟨p1,p2,p3⟩:=I.pin p hp;exact⟨p1,by rw[aJ (λz=>by rw[z,e] at p2;cases p2)];exact p2,p3⟩
 hok:=λb o q=>by
  have ho:∀ c y,H c=some (.own y)->upd H a u c=some (.own y):=λc y r=>by rw[aJ (λz=>by subst z;rw[e] at r;cases r)];exact r
  have ht:∀ c xs,H c=some (.tup xs)->upd H a u c=some (.tup xs):=λc xs r=>by rw[aJ (λz=>by subst z;rw[e] at r;cases r)];exact r
  by_cases hb:b=a
  ·subst hb;rw[aN] at q;cases q;exact(I.hok b _ e).2.stay (λ_ _ _ q=>q) (λc r=>ho c b r) ht
  ·rw[aJ hb] at q;exact(I.hok b o q).stay (λ_ _ _ q=>q) (λc r=>ho c b r) ht
 len:=I.len
def Ends.loose(D:Ends)(a:Addr)(raw:Obj)(u:HO):Ends where
 nx:=λO H=>H a=some (.frz raw u)/\D.nx O (upd H a u)
 bk:=λO H=>H a=some (.frz raw u)/\D.bk O (upd H a u)
 ct:=λO H=>H a=some (.frz raw u)/\D.ct O (upd H a u)
 rt:=λv H=>H a=some (.frz raw u)/\D.rt v (upd H a u)
def R0(i:Nat)(t:TS):TS:=λD O H=>∃ a u,O[i]?=some (some (.ref a))/\lu u/\(((∃ raw,H a=some (.frz raw u))/\t D O H)\/(H a=some u/\∀ raw,t (D.loose a raw u) O (upd H a (.frz raw u))))
theorem M9{st:Stmt}{t:TS}(i:Nat)(h:PS X st t):PS X st (R0 i t):=by
 intro pins s O H D I q;obtain⟨a,u,_,hu,⟨_,q⟩|⟨e,q⟩⟩:=q
 ·exact h pins s O H D I q
 ·have h0:∀ o v,X.H₀ a≠some (.frz o v):=λo v z=>by
   have:=I.base.frzs a o v z;rw[e] at this;cases this;exact hu
  obtain⟨raw,_,I2⟩:=I.hold e hu;refine thn (h pins s O _ _ I2 (q raw)) λf s' r=>?_;cases f with
  |next=>obtain⟨O',H',I',e',r⟩:=r;exact⟨O',_,I'.loose e' hu h0,r⟩
  |brk=>obtain⟨O',H',I',e',r⟩:=r;exact⟨O',_,I'.loose e' hu h0,r⟩
  |cont=>obtain⟨O',H',I',e',r⟩:=r;exact⟨O',_,I'.loose e' hu h0,r⟩
  |ret w=>obtain⟨v,O',H',I',rv,e',r⟩:=r;exact⟨v,O',_,I'.loose e' hu h0,rv,r⟩
def R4(i:Nat)(t:TE):TE:=λO H Q=>∃ a u,O[i]?=some (some (.ref a))/\lu u/\(((∃ raw,H a=some (.frz raw u))/\t O H Q)\/(H a=some u/\∀ raw,t O (upd H a (.frz raw u)) λv H'=>H' a=some (.frz raw u)/\Q v (upd H' a u)))
theorem rJ{e:Expr}{t:TE}(i:Nat)(h:PE X e t):PE X e (R4 i t):=by
 intro pins s O H Q I q;obtain⟨a,u,_,hu,⟨_,q⟩|⟨e',q⟩⟩:=q
 ·exact h pins s O H Q I q
 ·have h0:∀ o v,X.H₀ a≠some (.frz o v):=λo v z=>by
   have:=I.base.frzs a o v z;rw[e'] at this;cases this;exact hu
  obtain⟨raw,_,I2⟩:=I.hold e' hu;refine thn (h pins s O _ _ I2 (q raw)) λw s' ⟨v,H',I',rv,e2,r⟩=>⟨v,_,I'.loose e2 hu h0,rv,r⟩
end
def Itd(a:Addr)(raw:Obj)(kvs:List (Key×V)):It:=
 ⟨λi H=>H a=some (.frz raw (.dK kvs))/\i<kvs.length,λi H x H'=>H'=H/\∃ kv,kvs[i]?=some kv/\x=kV kv.1,λi H=>H a=some (.frz raw (.dK kvs))/\i=kvs.length⟩
theorem Ge{P:Program}{w:World}{k:Key}{u:Value}(h:(bN P w).is k u=true):RelV (kV k) u:=by
 rcases dC h with⟨i,t,rfl,rfl⟩|⟨x,t,rfl,rfl⟩
 ·exact⟨t,rfl⟩
 ·exact⟨t,rfl⟩
theorem rK{P:Program}{w:World}{H:Hp}{h:Heap}{a:Addr}{raw:Obj}{kvs:List (Key×V)}(ok:HOk P w H h)(e:H a=some (.frz raw (.dK kvs))){es:Array DictEntry}{ep:Nat}(hd:raw.data=.dict es ep):(a==sysModules)=false/\∃ vs,KV kvs vs/\h.DictAt (bN P w) a vs ep:=by
 obtain⟨hr,_,hs,vs,kv,o,es',ep',h1,h2,h3,h4⟩:=(show dG P w H h a (.frz raw (.dK kvs)) from ok a _ e);rw[hr] at h1;cases h1;rw[hd] at h3;cases h3;exact⟨hs,vs,kv,raw,es,hr,h2,hd,h4⟩
theorem Px{P:Program}{w:World}{K:Frag}{tg:Expr}(a it:Addr)(raw:Obj)(kvs:List (Key×V)){es:Array DictEntry}{ep:Nat}(hd:raw.data=.dict es ep) :
  Turn P w K tg (Itd a raw kvs) [it] it (λi h=>h.IsKeyIter it a i kvs.length ep) where
 mem:=by simp
 obj:=λi h st b hb=>by
  have e:b=it:=by simpa using hb
  subst e;obtain⟨o,e,c,d⟩:=st;exact⟨o,e,λv z=>by rw[d] at z;cases z⟩
 keep:=λi h h' st k=>st.at λo q=>k it (by simp) o q
 item:=by
  intro X hP hw hK hc i pins s O H E I hf st hg;subst hP hw hK;obtain⟨e,hi⟩:=hg;obtain⟨f0,f1,f2,f3,f4,f5⟩:=hf it (by simp)
  obtain⟨_,vs,kv,dd⟩:=rK I.hok e hd;have hl:=kv.length;have hne:a≠it:=λz=>by subst z;rw[e] at f0;cases f0
  have W:=Walks.dictKeys (prog:=X.prog) (w:=X.w) (A:=X.A) (knd:=bN X.prog X.w) (I.ok.hd hc) it a hne vs ep;refine W.item i s _ _ (by omega) ⟨by rw[<-hl];exact st,dd⟩ λv h' tk hv st' kk=>?_
  obtain⟨k,x,hx,hk⟩:=hv;have I1:Inv X pins O H { s with heap:=h',toks:=tk }:=I.turned (λb o hb e=>kk b o (by simpa using hb) e) f0 f1 f3 f4 f5
  obtain⟨o,eo,cc,dd'⟩:=id st'.1;obtain⟨p,hp⟩:∃ p,kvs[i]?=some p:=⟨_,Zae hi⟩;have ek:p.1=k:=by
   have h1:(kvs.map (·.1))[i]?=some p.1:=by rw[Zac,hp];rfl
   have h2:(vs.map (·.1))[i]?=some k:=by rw[Zac,hx];rfl
   rw[kv.keys,h2] at h1;exact(Zaf h1).symm
  refine⟨_,rfl,Dj (s:={ s with heap:=h',toks:=tk }) eo cc dd' (by decide) ⟨kV p.1,H,I1,by rw[ek];exact Ge hk,⟨rfl,p,hp,rfl⟩,by rw[hl];exact st'.1,λb hb=>(hf b hb).1⟩⟩
 done:=by
  intro X hP hw hK hc i pins s O H E I hf st hg;subst hP hw hK;obtain⟨e,hi⟩:=hg;obtain⟨f0,f1,f2,f3,f4,f5⟩:=hf it (by simp)
  obtain⟨_,vs,kv,dd⟩:=rK I.hok e hd;have hl:=kv.length;have hne:a≠it:=λz=>by subst z;rw[e] at f0;cases f0
  have W:=Walks.dictKeys (prog:=X.prog) (w:=X.w) (A:=X.A) (knd:=bN X.prog X.w) (I.ok.hd hc) it a hne vs ep;subst hi;refine W.done s _ _ ⟨by rw[<-hl];exact st,dd⟩ λh' tk kk=>⟨rfl,I.turned (λb o hb e=>kk b o (by simpa using hb) e) f0 f1 f3 f4 f5⟩
 self:=λA i s Q E st h=>wpAny_pyIter_keyiter st h
def Wj(tl:TE):TI:=λO H R=>tl O H λx H1=>∃ a raw kvs,x=.ref a/\H1 a=some (.frz raw (.dK kvs))/\R (Itd a raw kvs) H1
theorem Nb{X:Cx}{tg l:Expr}{tl:TE}(hl:PE X l tl):PI X tg l (Wj tl):=by
 intro pins s O H R I h;refine thn (hl pins s O H _ I h) ?_;rintro v s1 ⟨x,H1,I1,r1,q1⟩;obtain⟨a,raw,kvs,e,ha,q⟩:=q1;subst e;cases r1;obtain⟨es,ep,hd⟩:∃ es ep,raw.data=.dict es ep:=by
  obtain⟨hr,_,hs,vs,kv,o,es',ep',h1,h2,h3,h4⟩:=(show dG X.prog X.w H1 s1.heap a (.frz raw (.dK kvs)) from I1.hok a _ ha);rw[hr] at h1;cases h1;exact⟨_,_,h3⟩
 obtain⟨hs,vs,kv,dd⟩:=rK I1.hok ha hd;refine wpAny_pyIter_dict hs dd ?_;refine⟨s1.heap.objs.size,[s1.heap.objs.size],_,_,H1,rfl,I1.kept (t':=s1.toks) λb o e=>Zaj _ e,Px a _ raw kvs hd,⟨_,Zar _ rfl,rfl,by rw[kv.length];rfl⟩,λb hb=>?_,q⟩
 have e:b=s1.heap.objs.size:=by simpa using hb
 subst e;exact I1.Cv (Zan _) (I1.hok.fresh (Zan _))
end L2
namespace L2.MP
open PySem PySem.Spec PyProof.Rows
structure Sw(F F':Hp)(a:Addr)(u:HO):Prop where
 ne:∀ b,b≠a->F' b=F b
 l:Rd F a u
 r:Rd F' a u
 d:lu u
section
variable{K:Frag}{F F' H H':Hp}{a:Addr}{u:HO}{v:V}{p:PV}
theorem Sw.symm(w:Sw F F' a u):Sw F' F a u:=⟨λb hb=>(w.ne b hb).symm,w.r,w.l,w.d⟩
theorem Sw.other(w:Sw F F' a u){b:Addr}{o:HO}(e:F b=some o)(h1:¬lu o)(h2:∀ raw x,lu x->o≠.frz raw x):F' b=some o:=by
 rw[w.ne b λz=>?_]
 ·exact e
 ·subst z;rcases w.l with q|⟨raw,q⟩
  ·rw[e] at q;cases q;exact h1 w.d
  ·rw[e] at q;cases q;exact h2 raw u w.d rfl
theorem Sw.rd(w:Sw F F' a u){b:Addr}{o:HO}(h:Rd F b o)(ho:lu o):Rd F' b o:=by
 by_cases hb:b=a
 ·subst hb;have:o=u:=by
   rcases h with h|⟨r,h⟩<;>rcases w.l with q|⟨r',q⟩<;>rw[h] at q<;>cases q
   ·rfl
   ·exact ho.elim
   ·exact w.d.elim
   ·rfl
  rw[this];exact w.r
 ·rcases h with h|⟨r,h⟩
  ·exact .inl (by rw[w.ne b hb];exact h)
  ·exact .inr ⟨r,by rw[w.ne b hb];exact h⟩
theorem Sw.sq(w:Sw F F' a u){b:Addr}{xs:List V}(h:SqL K F b xs):SqL K F' b xs:=by
 rcases h with(h|⟨o,h⟩)|h
 ·exact .inl (.inl (w.other h (λz=>z) λ_ _ _ z=>by cases z))
 ·exact .inl (.inr ⟨o,w.other h (λz=>z) λ_ x hx z=>by cases z;exact hx⟩)
 ·exact .inr h
theorem Rep.sw(w:Sw F F' a u)(h:Rep K F v p):Rep K F' v p:=by
 induction h with
 |non=>exact .non
 |bl=>exact .bl
 |int=>exact .int
 |str=>exact .str
 |ty=>exact .ty
 |tup h hl _ ih=>exact .tup (w.other h (λz=>z) λ_ _ _ z=>by cases z) hl ih
 |lst h hl _ ih=>exact .lst (w.sq h) hl ih
 |dk h hl _ ih=>exact .dk (w.rd h trivial) hl ih
 |dt h hl _ ih=>exact .dt (w.rd h trivial) hl ih
 |exc nm h hd hl _ ih=>exact .exc nm (w.other h (λz=>z) λ_ _ _ z=>by cases z) (w.other hd (λz=>z) λ_ _ _ z=>by cases z) hl ih
 |exc0 nm h=>exact .exc0 nm (w.other h (λz=>z) λ_ _ _ z=>by cases z)
theorem bG.sw{xs:List V}{l:List PV}(w:Sw F F' a u)(h:bG K F xs l):bG K F' xs l:=⟨h.1,λj x p a b=>(h.2 j x p a b).sw w⟩
theorem Own.sw{b:Addr}(w:Sw F F' a u)(e:H' b=H b)(h:Own K F H b p):Own K F' H' b p:=by
 cases p with
 |lst l=>obtain⟨xs,q,r⟩:=h;exact⟨xs,by rw[e];exact q,r.sw w⟩
 |dk l=>obtain⟨xs,q,r,s⟩:=h;exact⟨xs,by rw[e];exact q,r,λj x p a b=>(s j x p a b).sw w⟩
 |dt l=>obtain⟨xs,q,r,s⟩:=h;exact⟨xs,by rw[e];exact q,r,λj x p a b=>(s j x p a b).sw w⟩
 |_=>exact h.elim
theorem Dp.sw{P:Addr->Prop}(w:Sw F F' a u)(wH:Sw H H' a u)(h:Dp K F H P v p):(∀ b,P b->b≠a)->Dp K F' H' P v p:=by
 induction h with
 |fr h st=>exact λ_=>.fr (h.sw w) st
 |lst h hp hs dj hl _ ih=>exact λn=>.lst (by rw[wH.ne _ (n _ hp)];exact h) hp hs dj hl λj x p e1 e2=>ih j x p e1 e2 λb q=>n b (hs j b q).1
 |tup h hs dj hl _ ih=>exact λn=>.tup (wH.other h (λz=>z) λ_ _ _ z=>by cases z) hs dj hl λj x p e1 e2=>ih j x p e1 e2 λb q=>n b (hs j b q)
 |dk h hp hs dj hl _ ih=>exact λn=>.dk (by rw[wH.ne _ (n _ hp)];exact h) hp hs dj hl λj x p e1 e2=>ih j x p e1 e2 λb q=>n b (hs j b q).1
 |dt h hp hs dj hl _ ih=>exact λn=>.dt (by rw[wH.ne _ (n _ hp)];exact h) hp hs dj hl λj x p e1 e2=>ih j x p e1 e2 λb q=>n b (hs j b q).1
theorem RE.sw{C C':Cf}{O:St}{Z:Rho}(w:Sw F F' a u)(wH:Sw H H' a u)(fa:F a≠none)(hio:C'.io=C.io)(hnw:C'.nw=C.nw)(h0:∀ b,b≠a->C'.H0 b=C.H0 b)(rb:RB C' F' H')(R:RE K C F H O Z):RE K C' F' H' O Z where
 rb:=rb
 len:=R.len
 sh:=λi p e=>let⟨v,e1,r⟩:=R.sh i p e;⟨v,e1,r.sw w⟩
 ow:=λi p e=>by
  obtain⟨b,e1,e2,e3,e4⟩:=R.ow i p e;have nb:b≠a:=λz=>by subst z;exact fa e3
  exact⟨b,e1,e2.sw w (wH.ne b nb),by rw[w.ne b nb];exact e3,by rw[hio,hnw,h0 b nb];exact e4⟩
 dis:=R.dis
 dd:=by
  obtain⟨P,d⟩:=R.dd;have nb:∀ i b,P i b->b≠a:=λi b q z=>by subst z;exact fa (d.own i b q).1
  refine⟨P,λi b q=>?_,d.dis,d.ow,λi p e=>?_⟩
  ·obtain⟨c1,⟨o,c2,c3⟩,c4,c5⟩:=d.own i b q;exact⟨by rw[w.ne b (nb i b q)];exact c1,⟨o,by rw[wH.ne b (nb i b q)];exact c2,c3⟩,by rw[hnw];exact c4,by rw[h0 b (nb i b q)];exact c5⟩
  ·obtain⟨v,e1,e2⟩:=d.dp i p e;exact⟨v,e1,e2.sw w wH (nb i)⟩
end
def dq(G:Hp)(a:Addr)(raw:Obj)(u:HO):Hp:=λb=>@ite _ (b=a/\G a=some u) (Classical.propDecidable _) (some (.frz raw u)) (G b)
theorem fJ{G:Hp}{a b:Addr}{raw:Obj}{u:HO}(h:b≠a):dq G a raw u b=G b:=@if_neg _ (Classical.propDecidable _) (λz=>h z.1) _ _ _
theorem xO{G:Hp}{a:Addr}{raw:Obj}{u:HO}(h:G a=some u):dq G a raw u a=some (.frz raw u):=@if_pos _ (Classical.propDecidable _) ⟨rfl,h⟩ _ _ _
theorem ux{G:Hp}{a:Addr}{raw:Obj}{u:HO}(h:G a≠some u):dq G a raw u a=G a:=@if_neg _ (Classical.propDecidable _) (λz=>h z.2) _ _ _
def XF(F:Hp)(O:St)(i:Nat):Prop:=∃ a raw u,O[i]?=some (some (.ref a))/\F a=some (.frz raw u)/\lu u
def MSh(K:Frag)(C:Cg)(i:Nat)(t:TS)(f:Sn):Prop:=∀ F H O Z D o,RE K C.toCf F H O Z->XF F O i->f Z=some o->PO' K C F D o->t D O H
def MOh(K:Frag)(C:Cg)(i:Nat)(te:TE)(f:Fn PV):Prop:=
 ∀ F H O Z Q r,RE K C.toCf F H O Z->XF F O i->f Z=some r->Pr C F (λp=>∀ a F' H',Up F H F' H'->H a=none->F' a=none->Own K F' H' a p->Q (.ref a) H') r->te O H Q
def yz(i:Nat)(f:Sn):Sn:=λZ=>match Z[i]? with
 |some (some (.sh p))=>if p.isD=true then(match f Z with
  |some (.rd _)=>none
  |x=>x) else none
 |_=>none
section
variable{K:Frag}{t:TS}{f:Sn}
theorem Nf{io:Addr->Prop}{H0 F0 F H:Hp}{O:St}{Z:Rho}{a:Addr}{u:HO}{raw:Obj}(R:RE K (C0 io H0 F0).toCf F H O Z)(fa:F a=some u)(hu:lu u) :
  RE K (C0 io (dq H0 a raw u) (dq F0 a raw u)).toCf (upd F a (.frz raw u)) (upd H a (.frz raw u)) O Z/\H a=some u:=by
 have ha:=R.rb.sub _ _ fa;have w:Sw F (upd F a (.frz raw u)) a u:=⟨λb hb=>aJ hb,.inl fa,.inr ⟨raw,aN⟩,hu⟩;have wH:Sw H (upd H a (.frz raw u)) a u:=⟨λb hb=>aJ hb,.inl ha,.inr ⟨raw,aN⟩,hu⟩;have nt:∀ ys,u≠.tup ys:=λys z=>by subst z;exact hu
 have rb2:RB (C0 io (dq H0 a raw u) (dq F0 a raw u)).toCf (upd F a (.frz raw u)) (upd H a (.frz raw u)):=by
  refine⟨λb o q=>?_,λb o q n=>?_,λb o q=>?_,λb q=>?_⟩
  ·by_cases hb:b=a
   ·subst hb;rw[aN] at q ⊢;exact q
   ·rw[aJ hb] at q ⊢;exact R.rb.sub b o q
  ·by_cases hb:b=a
   ·subst hb;rw[aN];by_cases hh:H0 b=some u
    ·have q:dq H0 b raw u b=some o:=q;rw[xO hh] at q;exact q
    ·have q:dq H0 b raw u b=some o:=q;rw[ux hh] at q;have:=R.rb.keep b o q n;rw[ha] at this;exact absurd (q.trans this.symm) hh
   ·have q:dq H0 a raw u b=some o:=q;rw[fJ hb] at q;rw[aJ hb];exact R.rb.keep b o q n
  ·by_cases hb:b=a
   ·subst hb;rw[aN] at q;cases q;rcases R.rb.new b u fa with z|z|⟨ys,z⟩
    ·exact .inl (xO z)
    ·refine .inr (.inl ?_);show dq H0 b raw u b=none
     rw[ux (by rw[show H0 b=none from z];intro y;cases y)];exact z
    ·exact absurd z (nt ys)
   ·rw[aJ hb] at q;rcases R.rb.new b o q with z|z|z
    ·exact .inl ((fJ hb).trans z)
    ·exact .inr (.inl ((fJ hb).trans z))
    ·exact .inr (.inr z)
  ·obtain⟨q1,q2⟩:=R.rb.ios b q;refine⟨?_,?_⟩
   ·by_cases hb:b=a
    ·subst hb;rw[aN];intro z;cases z
    ·rw[aJ hb];exact q1
   ·show dq H0 a raw u b≠none
    by_cases hb:b=a
    ·subst hb;by_cases hh:H0 b=some u
     ·rw[xO hh];intro z;cases z
     ·rw[ux hh];exact q2
    ·rw[fJ hb];exact q2
 have R2:RE K (C0 io (dq H0 a raw u) (dq F0 a raw u)).toCf (upd F a (.frz raw u)) (upd H a (.frz raw u)) O Z:=RE.sw (C:=(C0 io H0 F0).toCf) w wH (by rw[fa];intro z;cases z) rfl rfl (λb hb=>fJ hb) rb2 R
 exact⟨R2,ha⟩
theorem R5{io:Addr->Prop}{H0 F0:Hp}{Pc:Hp->Prop}(i:Nat)(hP:Pc H0)(hh:∀ H0 a raw u,lu u->Pc H0->Pc (dq H0 a raw u))(h:∀ H0 F0,Pc H0->MSh K (C0 io H0 F0) i t f):MS K (C0 io H0 F0) (R0 i t) (yz i f):=by
 intro F H O Z D o R e P;unfold yz at e;split at e
 case h_2=>cases e
 rename_i p hp;split at e
 case isFalse=>cases e
 rename_i hd;obtain⟨e',nrd⟩:f Z=some o/\∀ q,o≠.rd q:=by
  split at e
  ·cases e
  ·rename_i x hx;exact⟨e,λq z=>by subst z;exact hx q e⟩
 obtain⟨v,ev,rv⟩:=R.sh i p hp;obtain⟨a,u,rfl,rd,hu⟩:∃ a u,v=.ref a/\Rd F a u/\lu u:=by
  cases rv with
  |dk h=>exact⟨_,_,rfl,h,trivial⟩
  |dt h=>exact⟨_,_,rfl,h,trivial⟩
  |_=>cases hd
 refine⟨a,u,ev,hu,?_⟩;rcases rd with fa|⟨raw,fa⟩
 case inr=>exact .inl ⟨⟨raw,R.rb.sub _ _ fa⟩,h H0 F0 hP F H O Z D o R ⟨a,raw,u,ev,fa,hu⟩ e' P⟩
 refine .inr ⟨R.rb.sub _ _ fa,λraw=>?_⟩;have ha:=R.rb.sub _ _ fa;have w:Sw F (upd F a (.frz raw u)) a u:=⟨λb hb=>aJ hb,.inl fa,.inr ⟨raw,aN⟩,hu⟩;have wH:Sw H (upd H a (.frz raw u)) a u:=⟨λb hb=>aJ hb,.inl ha,.inr ⟨raw,aN⟩,hu⟩;have nt:∀ ys,u≠.tup ys:=λys z=>by subst z;exact hu
 obtain⟨R2,_⟩:=Nf (raw:=raw) R fa hu;have back:∀ {F3 H3:Hp},aU (upd F a (.frz raw u)) F3->RB (C0 io (dq H0 a raw u) (dq F0 a raw u)).toCf F3 H3->H3 a=some (.frz raw u)/\Sw F3 (upd F3 a u) a u/\Sw H3 (upd H3 a u) a u/\aU F (upd F3 a u)/\RB (C0 io H0 F0).toCf (upd F3 a u) (upd H3 a u):=by
  intro F3 H3 s3 rb3;have f3:F3 a=some (.frz raw u):=s3 _ _ aN;have h3:=rb3.sub _ _ f3;refine⟨h3,⟨λb hb=>aJ hb,.inr ⟨raw,f3⟩,.inl aN,hu⟩,⟨λb hb=>aJ hb,.inr ⟨raw,h3⟩,.inl aN,hu⟩,λb o q=>?_,λb o q=>?_,λb o q n=>?_,λb o q=>?_,λb q=>?_⟩
  ·by_cases hb:b=a
   ·subst hb;rw[aN,<-q,fa]
   ·rw[aJ hb];exact s3 b o (by rw[aJ hb];exact q)
  ·by_cases hb:b=a
   ·subst hb;rw[aN] at q ⊢;exact q
   ·rw[aJ hb] at q ⊢;exact rb3.sub b o q
  ·by_cases hb:b=a
   ·subst hb;have:=R.rb.keep b o q n;rw[ha] at this;rw[aN];exact this
   ·rw[aJ hb];exact rb3.keep b o ((fJ hb).trans q) n
  ·by_cases hb:b=a
   ·subst hb;rw[aN] at q;cases q;exact R.rb.new b u fa
   ·rw[aJ hb] at q;rcases rb3.new b o q with z|z|z
    ·exact .inl ((fJ hb).symm.trans z)
    ·exact .inr (.inl ((fJ hb).symm.trans z))
    ·exact .inr (.inr z)
  ·refine⟨?_,(R.rb.ios b q).2⟩;by_cases hb:b=a
   ·subst hb;rw[aN];intro z;cases z
   ·rw[aJ hb];exact(rb3.ios b q).1
 have backR:∀ {F3 H3:Hp}{σ3:St}{Z3:Rho},aU (upd F a (.frz raw u)) F3->RE K (C0 io (dq H0 a raw u) (dq F0 a raw u)).toCf F3 H3 σ3 Z3->H3 a=some (.frz raw u)/\aU F (upd F3 a u)/\RE K (C0 io H0 F0).toCf (upd F3 a u) (upd H3 a u) σ3 Z3:=by
  intro F3 H3 σ3 Z3 s3 R3;obtain⟨b1,b2,b3,b4,b5⟩:=back s3 R3.rb;have f3:F3 a=some (.frz raw u):=s3 _ _ aN;exact⟨b1,b4,RE.sw (C:=(C0 io (dq H0 a raw u) (dq F0 a raw u)).toCf) b2 b3 (by rw[f3];intro z;cases z) rfl rfl (λb hb=>(fJ hb).symm) b5 R3⟩
 refine h (dq H0 a raw u) (dq F0 a raw u) (hh _ _ _ _ hu hP) _ _ O Z _ o R2 ⟨a,raw,u,ev,aN,hu⟩ e' ?_;cases o with
 |nx Z3=>exact λF3 H3 σ3 s3 R3=>let⟨b1,b2,b3⟩:=backR s3 R3;⟨b1,P _ _ _ b2 b3⟩
 |bk Z3=>exact λF3 H3 σ3 s3 R3=>let⟨b1,b2,b3⟩:=backR s3 R3;⟨b1,P _ _ _ b2 b3⟩
 |ct Z3=>exact λF3 H3 σ3 s3 R3=>let⟨b1,b2,b3⟩:=backR s3 R3;⟨b1,P _ _ _ b2 b3⟩
 |rt q=>exact λv F3 H3 s3 rb3 r=>let⟨b1,b2,b3,b4,b5⟩:=back s3 rb3;⟨b1,P v _ _ b4 b5 (r.sw b2)⟩
 |ro q=>
  intro b F3 H3 s3 rb3 ow nb n0;obtain⟨b1,b2,b3,b4,b5⟩:=back s3 rb3;have f3:F3 a=some (.frz raw u):=s3 _ _ aN;have hb:b≠a:=λz=>by subst z;rw[f3] at nb;cases nb
  exact⟨b1,P b _ _ b4 b5 (ow.sw b2 (b3.ne b hb)) (by rw[aJ hb];exact nb) ((fJ hb).symm.trans n0)⟩
 |rd q=>exact absurd rfl (nrd q)
 |ex z=>exact λ_ _ _ _ _ _ x=>x.elim
theorem Ng{io:Addr->Prop}{H0 F0:Hp}(i:Nat)(h:∀ H0 F0,MSh K (C0 io H0 F0) i t f):MS K (C0 io H0 F0) (R0 i t) (yz i f):=R5 (Pc:=λ_=>True) i trivial (λ_ _ _ _ _ _=>trivial) λH0 F0 _=>h H0 F0
end
def Aq(l:List (Key×PV)):List PV:=l.map λkv=>Ik kv.1
def zf:PV->Option (Res (List PV))
 |.dk l=>some (.ok (Aq l))
 |_=>none
def Py(K:Frag)(C:Cg)(i:Nat)(wi:TI)(f:Fn (List PV)):Prop:=
 ∀ F H O Z R' r,RE K C.toCf F H O Z->XF F O i->f Z=some r->Pr C F (λl=>∀ J F' H',Up F H F' H'->ItR K J F' l->R' J H') r->wi O H R'
section
variable{K:Frag}{C:Cg}{te:TE}{t:TS}{f:Sn}{F H:Hp}{O:St}{Z:Rho}{D:Ends}{o:Out}
theorem Gf{k:Key}:Rep K F (kV k) (Ik k):=by
 cases k with
 |inl i=>exact .int
 |inr z=>exact .str
theorem Iz(i:Nat):Py K C i (Wj (lJ i)) (m1 zf (mV i)):=by
 intro F H O Z R' r R hh e P;rcases bM e with⟨z,e1,rfl⟩|⟨p,e1,hk⟩
 ·unfold mV at e1;split at e1
  ·cases e1
  ·cases e1
 obtain⟨a,raw,u,ev,fa,hu⟩:=hh;have hp:Z[i]?=some (some (.sh p)):=by
  unfold mV at e1;split at e1
  ·rename_i q hq;cases e1;exact hq
  ·cases e1
 match p,hk with
 |.dk l,hk=>
  cases hk;obtain⟨v,ev',rv⟩:=R.sh i _ hp;rw[ev] at ev';cases ev';cases rv with
  |@dk _ xs _ h hl hr=>
   have hx:u=.dK xs:=by
    rcases h with h|⟨o,h⟩
    ·rw[fa] at h;cases h
    ·rw[fa] at h;cases h;rfl
   subst hx;have len:xs.length=l.length:=by have:=ZaY List.length hl;simpa using this
   refine⟨_,ev,a,raw,xs,rfl,R.rb.sub _ _ fa,P _ F H (Up.refl R.rb.sub) ⟨λF' H' s s'=>?_,λj F' H' hj s s'=>?_,λj F' H' x H'' hj s s' y=>?_⟩⟩
   ·exact⟨s' _ _ (s _ _ fa),by unfold Aq;rw[Zab];exact len.symm⟩
   ·refine⟨s' _ _ (s _ _ fa),?_⟩;unfold Aq at hj;rw[Zab] at hj;omega
   ·obtain⟨rfl,kv,hkv,rfl⟩:=y;have hl2:(l.map (·.1))[j]?=some kv.1:=by rw[<-hl,Zac,hkv];rfl
    refine⟨F',Ik kv.1,Up.refl s',?_,Gf⟩;unfold Aq;rw[Zac] at hl2 ⊢;cases q:l[j]? with
    |none=>rw[q] at hl2;cases hl2
    |some w=>
     rw[q] at hl2;show some (Ik w.1)=some (Ik kv.1)
     rw[show w.1=kv.1 from Zaf hl2]
theorem Nh{i:Nat}{wi:TI}{it:Fn (List PV)}{gt:TG}{tg:PV->Rho->Option Rho}(hi:Py K C i wi it)(hg:MG K C gt tg)(hb:MS K C t f):MSh K C i (WX wi gt t) (oA it tg f):=by
 intro F H O Z D o R hh e P;rcases cQ e with⟨z,e1,rfl⟩|⟨l,e1,hk⟩
 ·exact hi F H O Z _ _ R hh e1 P
 ·exact hi F H O Z _ _ R hh e1 λJ F' H' u hJ=>Dy hg hb hJ (R.up u) hk (P.up u.ff)
theorem iZ{wi:TI}{it:Fn (List PV)}{fr:List (Option Nat)}{gt:TG}{tg:PV->Rho->Option Rho}{T:List Nat}{tc:TT}{tst:Fn Bool}{el:Fn PV}{i0:Nat}(hi:Py K C i0 wi it)(hg:MG K C gt tg)(hT:Wr T tg)(ht:MT K C tc tst)(he:MJ K C (aF K) te el)
  (hfr:T.all (λj=>fr[j]?==some none)=true:=by rfl):MOh K C i0 (Ds wi fr gt tc te) (gQ it fr tg tst el):=by
 intro F H O Z Q r R hh e P;rcases bM e with⟨z,e1,rfl⟩|⟨l,e1,hk⟩
 ·exact hi F H O Z _ _ R hh e1 P
 split at hk
 case isFalse=>cases hk
 rename_i hlen;refine hi F H O Z _ _ R hh e1 λJ F1 H1 u hJ D hD=>?_;have R1:=R.up u;obtain⟨Rb,no⟩:=R1.block fr;have hD0:C.H0 D=none:=R1.rb.vz hD;have hFD:F1 D=none:=u.fh.free hD;have hρ:∀ (j:Nat),j∈T->(frR fr Z)[j]?=some none:=λj hj=>by
  have:=ZaT.mp hfr j hj;unfold frR;rw[Zac,show fr[j]?=some none by simpa using this]
  rfl
 refine⟨λi m O' H'=>∃ F' ys acc,m=l.length-i/\i<=l.length/\aU F1 F'/\(∀ b o,F' b=some o->F1 b=some o\/Frz H1 b o)/\aU H1 H'/\H' D=some (.lst ys)/\F' D=none/\bG K F' ys acc/\acc.length<=i /\
   RE K C.toCf F' H' O' (frR fr Z)/\bnd (fM tg tst el (frR fr Z) (l.drop i)) (λr=>some (.ok (.lst (acc++r))))=some r,
  ⟨l.length,F1,[],[],by simp,Za4 _,aU.refl _,λ_ _ q=>.inl q,dU hD,aN,hFD,.nil,Zan _,Rb.other hFD hD0 no,by rw[ZcN];exact hk⟩,?_⟩
 rintro i m O' H' ⟨F',ys,acc,rfl,hil,s1,fr1,sH,eD,nD,ra,hacc,R',e'⟩;by_cases hlt:i<l.length
 case neg=>
  have ei:i=l.length:=by omega
  subst ei;rw[ZcX] at e';have e':some (Res.ok (PV.lst (acc++[])))=some r:=e';rw[Zbp] at e';cases e';exact .inl ⟨hJ.stop F' H' s1 R'.rb.sub,P D F' H' (u.trans ⟨s1,sH,fr1,R'.rb.sub⟩) (u.hh.free hD) nD ⟨ys,eD,ra⟩⟩
 refine .inr ⟨hJ.go i F' H' hlt s1 R'.rb.sub,λσ2 H2=>∃ F2 ys acc,aU F1 F2/\(∀ b o,F2 b=some o->F1 b=some o\/Frz H1 b o)/\aU H1 H2/\H2 D=some (.lst ys)/\F2 D=none/\bG K F2 ys acc/\acc.length<=i+1 /\
   RE K C.toCf F2 H2 σ2 (frR fr Z)/\bnd (fM tg tst el (frR fr Z) (l.drop (i+1))) (λr=>some (.ok (.lst (acc++r))))=some r,
  λσ2 H2 ⟨F2,ys,acc,z⟩=>⟨l.length-(i+1),by omega,F2,ys,acc,rfl,hlt,z⟩,λx H'' y=>?_⟩
 obtain⟨F'',p,u2,ep,rx⟩:=hJ.yld i F' H' x H'' hlt s1 R'.rb.sub y;have ed:l.drop i=p::l.drop (i+1):=by
  rw[ZbS hlt];rw[Zae hlt] at ep;rw[Zaf ep]
 rw[ed,fM] at e';split at e'
 ·cases e'
 rename_i Z1 h1;obtain⟨w1,w2,w3⟩:=hT p _ Z1 h1;have no1:=w3 no;have weak:∀ (j:Nat) s,(frR fr Z)[j]?=some (some s)->Z1[j]?=some (some s):=λj s ej=>by
  rw[w2 j λz=>by rw[hρ j z] at ej;cases ej];exact ej
 refine hg F'' H'' O' (frR fr Z) x p Z1 _ (R'.up u2) rx h1 λσ1 R1'=>?_;have stay:∀ {F3 H3:Hp},Up F' H' F3 H3->aU F1 F3/\(∀ b o,F3 b=some o->F1 b=some o\/Frz H1 b o)/\aU H1 H3/\H3 D=some (.lst ys)/\F3 D=none/\bG K F3 ys acc:=λ{F3 H3} u3=>by
  refine⟨s1.trans u3.ff,λb o q=>?_,sH.trans u3.hh,u3.hh _ _ eD,?_,ra.up u3.ff⟩
  ·rcases u3.fr b o q with z|z
   ·exact fr1 b o z
   ·exact .inr (z.imp (λz=>sH.free z) id)
  ·cases q:F3 D with
   |none=>rfl
   |some o=>
    rcases u3.fr D o q with z|z|⟨ys,z⟩
    ·rw[nD] at z;cases z
    ·rw[eD] at z;cases z
    ·subst z;have w:=u3.fh _ _ q;rw[u3.hh _ _ eD] at w;cases w
 have Pl:∀ {F3 H3:Hp},Up F' H' F3 H3->∀ {z:PV},r=.ex z->PX C F3 z:=λ{F3 H3} u3 {z} ez=>by
  subst ez;exact PX.up P (u.ff.trans (s1.trans u3.ff))
 rw[lU] at e';rcases bM e' with⟨z',e4,ez⟩|⟨b,e4,e5⟩
 ·exact ht F'' H'' σ1 Z1 _ _ R1' e4 (Pl u2 ez)
 refine ht F'' H'' σ1 Z1 _ _ R1' e4 λF3 H3 u3=>?_;have u23:=u2.trans u3;cases b with
 |false=>
  rw[Zal (by decide)] at e5 ⊢
  obtain⟨a1,a2,a3,a4,a5,a6⟩:=stay u23;exact⟨F3,ys,acc,a1,a2,a3,a4,a5,a6,by omega,(R1'.up u3).weak w1.symm weak,e5⟩
 |true=>
  rw[Zam rfl] at e5 ⊢;rw[lU] at e5;rcases bM e5 with⟨z',e6,ez⟩|⟨q,e6,e7⟩
  ·exact he F3 H3 σ1 Z1 _ _ (R1'.up u3) e6 (Pl u23 ez)
  refine he F3 H3 σ1 Z1 _ _ (R1'.up u3) e6 λv F4 H4 u4 rv=>?_;have u24:=u23.trans u4;obtain⟨a1,a2,a3,a4,a5,a6⟩:=stay u24;refine⟨ys,a4,by rw[a6.1];omega,F4,ys++[v],acc++[q],a1,a2,Du hD a3,aN,a5,a6.snoc rv,by simp;omega,((R1'.up (u3.trans u4)).other a5 hD0 no1).weak w1.symm weak,?_⟩
  rw[lU] at e7;rw[<-e7];congr 1
  funext rr
  show some (Res.ok (PV.lst (acc++[q]++rr)))=some (Res.ok (PV.lst (acc++q::rr)))
  rw[Zbc];rfl
def lZ(i:Nat)(f:Fn PV):Fn PV:=λZ=>match Z[i]? with
 |some (some (.sh p))=>if p.isD=true then f Z else none
 |_=>none
theorem rM{io:Addr->Prop}{H0 F0:Hp}{fe:Fn PV}(i:Nat)(h:∀ H0 F0,MOh K (C0 io H0 F0) i te fe):MO K (C0 io H0 F0) (R4 i te) (lZ i fe):=by
 intro F H O Z Q r R e P;unfold lZ at e;split at e
 case h_2=>cases e
 rename_i p hp;split at e
 case isFalse=>cases e
 rename_i hd;obtain⟨v,ev,rv⟩:=R.sh i p hp;obtain⟨a,u,rfl,rd,hu⟩:∃ a u,v=.ref a/\Rd F a u/\lu u:=by
  cases rv with
  |dk h=>exact⟨_,_,rfl,h,trivial⟩
  |dt h=>exact⟨_,_,rfl,h,trivial⟩
  |_=>cases hd
 refine⟨a,u,ev,hu,?_⟩;rcases rd with fa|⟨raw,fa⟩
 case inr=>exact .inl ⟨⟨raw,R.rb.sub _ _ fa⟩,h H0 F0 F H O Z Q r R ⟨a,raw,u,ev,fa,hu⟩ e P⟩
 refine .inr ⟨R.rb.sub _ _ fa,λraw=>?_⟩;have ha:=R.rb.sub _ _ fa;obtain⟨R2,_⟩:=Nf (raw:=raw) R fa hu;refine h (dq H0 a raw u) (dq F0 a raw u) _ _ O Z _ r R2 ⟨a,raw,u,ev,aN,hu⟩ e ?_;cases r with
 |ex z=>exact λ_ _ _ _ _ _ x=>x.elim
 |ok q=>
  intro b F3 H3 u3 n1 n2 ow;have f3:F3 a=some (.frz raw u):=u3.ff _ _ aN;have h3:=u3.fh _ _ f3;have hb:b≠a:=λz=>by subst z;rw[f3] at n2;cases n2
  refine⟨h3,P b (upd F3 a u) (upd H3 a u) ⟨λc o' q=>?_,λc o' q=>?_,λc o' q=>?_,λc o' q=>?_⟩ (by rw[aJ hb] at n1;exact n1) (by rw[aJ hb];exact n2) (ow.sw ⟨λc hc=>aJ hc,.inr ⟨raw,f3⟩,.inl aN,hu⟩ (aJ hb))⟩
  ·by_cases hc:c=a
   ·subst hc;rw[aN,<-q,fa]
   ·rw[aJ hc];exact u3.ff c o' (by rw[aJ hc];exact q)
  ·by_cases hc:c=a
   ·subst hc;rw[aN,<-q,ha]
   ·rw[aJ hc];exact u3.hh c o' (by rw[aJ hc];exact q)
  ·by_cases hc:c=a
   ·subst hc;rw[aN] at q;cases q;exact .inl fa
   ·rw[aJ hc] at q;rcases u3.fr c o' q with z|z|z
    ·rw[aJ hc] at z;exact .inl z
    ·rw[aJ hc] at z;exact .inr (.inl z)
    ·exact .inr (.inr z)
  ·by_cases hc:c=a
   ·subst hc;rw[aN] at q ⊢;exact q
   ·rw[aJ hc] at q ⊢;exact u3.fh c o' q
end
structure Wl(a c:Addr)(F H F' H':Hp):Prop where
 ff:aU F F'
 hb:∀ b o,H b=some o->b≠a->b≠c->H' b=some o
 fr:∀ b o,F' b=some o->F b=some o\/Frz H b o
 fh:aU F' H'
def La(K:Frag)(F:Hp)(a c:Addr)(p q:PV)(xs:List V)(l:List PV):Prop:=
 xs.length=l.length/\xs[0]?=some (.ref a)/\l[0]?=some p/\xs[1]?=some (.ref c)/\l[1]?=some q/\∀ (k:Nat) x r,2<=k->xs[k]?=some x->l[k]?=some r->Rep K F x r
def Ar(K:Frag)(m:List PV->Option (Res PV)):Sp:=λvs H Q _=>∃ ps F a c p q p' q',aU F H/\La K F a c p q vs ps/\a≠c/\Own K F H a p/\F a=none/\Own K F H c q/\F c=none/\m ps=some (.ok (.tup [p',q']))/\∀ F' H',Wl a c F H F' H'->Own K F' H' a p'->F' a=none->Own K F' H' c q'->F' c=none->Q .non H'
def dI(ps:List PV)(n:Nat):Rho:=(ps.mapIdx λk p=>some (if k<2 then Sl.ow p else Sl.sh p))++List.replicate n none
def uy:Option Out->Option (Res PV)
 |some (.nx Z)=>match ownAt 0 Z,ownAt 1 Z with
  |some p,some q=>some (.ok (.tup [p,q]))
  |_,_=>none
 |_=>none
section
variable{K:Frag}{C:Cg}{N:List Str}{vs:List V}{H F:Hp}{Q:VK}{E:XK}{t:TS}{b:Sn}{m:List PV->Option (Res PV)}{ps:List PV}{a c:Addr}{p q:PV}{n:Nat}
theorem pF{i:Nat}{s:Sl}(e:(dI ps n)[i]?=some (some s)):∃ q,ps[i]?=some q/\s=if i<2 then Sl.ow q else Sl.sh q:=by
 unfold dI at e;by_cases hi:i<ps.length
 ·rw[Zag (by simpa using hi),Zca] at e
  cases h:ps[i]? with
  |none=>rw[h] at e;cases e
  |some q=>rw[h] at e;exact⟨q,rfl,(Zaf (Zaf e)).symm⟩
 ·rw[Zap (by simpa using hi),Zbt] at e
  split at e<;>cases e
theorem qH{i:Nat}{x:PV}(r:La K F a c p q vs ps)(e:(dI ps n)[i]?=some (some (.ow x))):(i=0/\x=p)\/(i=1/\x=q):=by
 obtain⟨q',e1,e2⟩:=pF e;by_cases hij:i<2
 ·rw[Zam hij] at e2;cases e2;rcases(show i=0\/i=1 by omega) with rfl|rfl
  ·rw[r.2.2.1] at e1;cases e1;exact .inl ⟨rfl,rfl⟩
  ·rw[r.2.2.2.2.1] at e1;cases e1;exact .inr ⟨rfl,rfl⟩
 ·rw[Zal hij] at e2;cases e2
theorem IK(s:aU F H)(r:La K F a c p q vs ps)(ac:a≠c)(w:Own K F H a p)(hn:F a=none)(w2:Own K F H c q)(hn2:F c=none)(hN:N.length=vs.length+n):RE K ⟨λb=>b=a\/b=c,False,H,F,E⟩ F H (start N vs) (dI ps n) where
 rb:=⟨s,λ_ _ h _=>h,λ_ _ h=>.inl h,λb hb=>by
  obtain⟨o,eo⟩:=w.ne;obtain⟨o2,eo2⟩:=w2.ne;have h1:H b≠none:=by
   rcases hb with rfl|rfl
   ·rw[eo];simp
   ·rw[eo2];simp
  exact⟨h1,h1⟩⟩
 len:=by unfold start dI;rw[Zas,Zas,Zab,List.length_mapIdx,ZbN,ZbN,r.1,hN];have:=r.1;omega
 sh:=λi x e=>by
  obtain⟨q',e1,e2⟩:=pF e;by_cases hij:i<2
  ·rw[Zam hij] at e2;cases e2
  ·rw[Zal hij] at e2;cases e2;have hi:i<vs.length:=by rw[r.1];exact cF e1
   exact⟨vs[i],jV (by simp[hi]),r.2.2.2.2.2 i _ _ (by omega) (by simp[hi]) e1⟩
 ow:=λi x e=>by
  rcases qH r e with⟨rfl,rfl⟩|⟨rfl,rfl⟩
  ·exact⟨a,jV r.2.1,w,hn,.inl (.inl rfl)⟩
  ·exact⟨c,jV r.2.2.2.1,w2,hn2,.inl (.inr rfl)⟩
 dis:=λi k x y d e e' f f'=>by
  rcases qH r e with⟨rfl,_⟩|⟨rfl,_⟩<;>rcases qH r e' with⟨rfl,_⟩|⟨rfl,_⟩
  ·rfl
  ·rw[jV r.2.1] at f;rw[jV r.2.2.2.1] at f';cases f;cases f';exact absurd rfl ac
  ·rw[jV r.2.2.2.1] at f;rw[jV r.2.1] at f';cases f;cases f';exact absurd rfl ac
  ·rfl
 dd:=⟨_,RD.no λi x e=>by
  obtain⟨q',e1,e2⟩:=pF e;by_cases hij:i<2
  ·rw[Zam hij] at e2;cases e2
  ·rw[Zal hij] at e2;cases e2⟩
noncomputable abbrev C2(a c:Addr)(H0 F0:Hp):Cg:=⟨⟨λb=>b=a\/b=c,False,H0,F0,E0⟩,XR0⟩
theorem DY{k:Nat}(hk:N.length=k+n)(hm:∀ ps r,m ps=some r->ps.length=k/\uy (b (dI ps n))=some r)(h:Ar K m vs H Q E)(hS:∀ (a c:Addr) (H0 F0:Hp),MSk K (C2 a c H0 F0) 0 t b) :
  t { nx:=λ_ H'=>Q .non H',rt:=Q } (start N vs) H:=by
 obtain⟨ps,F,a,c,p,q,p',q',s,rp,ac,w,hn,w2,hn2,e,P⟩:=h;obtain⟨hl,e⟩:=hm ps _ e;have R:=IK (E:=E0) (N:=N) (n:=n) s rp ac w hn w2 hn2 (by rw[rp.1,hl];exact hk)
 cases ho:b (dI ps n) with
 |none=>rw[ho] at e;cases e
 |some o=>
  rw[ho] at e;refine hS a c H F F H _ _ _ o R ho ?_;cases o with
  |nx Z=>
   intro F' H' O s' R' kk;rw[jV rp.2.1] at kk;have e:(match ownAt 0 Z,ownAt 1 Z with|some p,some q=>some (Res.ok (PV.tup [p,q]))|_,_=>none)=some (.ok (.tup [p',q'])):=e
   split at e
   ·rename_i x y h0 h1;cases e;obtain⟨b0,e1,e2,e3,e4⟩:=R'.ow 0 _ (bJ h0);obtain⟨b1,f1,f2,f3,f4⟩:=R'.ow 1 _ (bJ h1);rw[kk] at e1;cases e1;have hc:b1=c:=by
     rcases f4 with(z|z)|z
     ·subst z;exact absurd (R'.dis 0 1 _ _ _ (bJ h0) (bJ h1) kk f1) (by decide)
     ·exact z
     ·exact z.1.elim
    subst hc;exact P F' H' ⟨s',λb o q h1 h2=>R'.rb.keep b o q λz=>z.elim h1 h2,R'.rb.new,R'.rb.sub⟩ e2 e3 f2 f3
   ·cases e
  |_=>cases e
theorem Ea(h:Ar K m vs H Q E){k:Nat}(hm:∀ ps r,m ps=some r->ps.length=k):vs.length=k:=by
 obtain⟨ps,F,a,c,p,q,p',q',s,rp,ac,w,hn,w2,hn2,e,P⟩:=h;rw[rp.1];exact hm ps _ e
theorem RE.Zg{F' H':Hp}{O:St}{Z:Rho}{p' q':PV}{i j:Nat}(R:RE K C.toCf F H O Z)(ij:i≠j)(e:Z[i]?=some (some (.ow p)))(ea:O[i]?=some (some (.ref a)))(f0:Z[j]?=some (some (.ow q)))(fc:O[j]?=some (some (.ref c)))
  (u:Wl a c F H F' H')(w:Own K F' H' a p')(hn:F' a=none)(w2:Own K F' H' c q')(hn2:F' c=none):RE K C.toCf F' H' O ((Z.set i (some (.ow p'))).set j (some (.ow q'))):=by
 obtain⟨a1,e1,e2,e3,e4⟩:=R.ow i p e;rw[ea] at e1;cases e1;obtain⟨c1,g1,g2,g3,g4⟩:=R.ow j q f0;rw[fc] at g1;cases g1;have own:∀ {b:Addr},b≠a->b≠c->∀ {x:PV},Own K F H b x->F b=none->Own K F' H' b x/\F' b=none:=λ{b} ha hc {x} ox fb=>by
  refine⟨ox.up u.ff λo q=>u.hb b o q ha hc,?_⟩;cases hF:F' b with
  |none=>rfl
  |some o=>
   obtain⟨ob,eob⟩:=ox.ne;rcases u.fr b o hF with z|z|⟨ys,z⟩
   ·rw[fb] at z;cases z
   ·rw[eob] at z;cases z
   ·subst z;have w:=u.fh _ _ hF;rw[u.hb b _ eob ha hc] at w;cases w;exact(ox.yu eob).elim
 have key:∀ {k:Nat}{x:PV},((Z.set i (some (Sl.ow p'))).set j (some (Sl.ow q')))[k]?=some (some (.ow x))->(k=j/\x=q')\/(k=i/\x=p')\/(k≠i/\k≠j/\Z[k]?=some (some (.ow x))):=λ{k x} f=>by
  rcases get_set f with⟨h1,h2⟩|⟨h1,h2⟩
  ·cases h2;exact .inl ⟨h1.symm,rfl⟩
  ·rcases get_set h2 with⟨h3,h4⟩|⟨h3,h4⟩
   ·cases h4;exact .inr (.inl ⟨h3.symm,rfl⟩)
   ·exact .inr (.inr ⟨Zbl h3,Zbl h1,h4⟩)
 have key':∀ {k:Nat}{x:PV},((Z.set i (some (Sl.ow p'))).set j (some (Sl.ow q')))[k]?=some (some (.ow x))->∃ y,Z[k]?=some (some (.ow y)):=λ{k x} f=>by
  rcases key f with⟨rfl,_⟩|⟨rfl,_⟩|⟨_,_,h⟩
  ·exact⟨q,f0⟩
  ·exact⟨p,e⟩
  ·exact⟨x,h⟩
 refine⟨⟨u.fh,λb o h n=>?_,λb o h=>?_,λb hb=>⟨?_,(R.rb.ios b hb).2⟩⟩,by simp[R.len],λk x f=>?_,λk x f=>?_,λk l x y b f f' h h'=>?_,?_⟩
 ·have h1:b≠a:=λz=>by
   subst z;rcases e4 with z|z
   ·exact n z
   ·rw[z.2] at h;cases h
  have h2:b≠c:=λz=>by
   subst z;rcases g4 with z|z
   ·exact n z
   ·rw[z.2] at h;cases h
  exact u.hb b o (R.rb.keep b o h n) h1 h2
 ·rcases u.fr b o h with z|z
  ·exact R.rb.new b o z
  ·exact .inr (z.imp (λz=>R.rb.vz z) id)
 ·by_cases hba:b=a
  ·subst hba;obtain⟨o,eo⟩:=w.ne;rw[eo];simp
  ·by_cases hbc:b=c
   ·subst hbc;obtain⟨o,eo⟩:=w2.ne;rw[eo];simp
   ·cases hb':H b with
    |none=>exact absurd hb' (R.rb.ios b hb).1
    |some o=>rw[u.hb b o hb' hba hbc];simp
 ·rcases get_set f with⟨h1,h2⟩|⟨h1,h2⟩
  ·cases h2
  ·rcases get_set h2 with⟨h3,h4⟩|⟨h3,h4⟩
   ·cases h4
   ·obtain⟨v,k1,k2⟩:=R.sh k x h4;exact⟨v,k1,k2.up u.ff⟩
 ·rcases key f with⟨rfl,rfl⟩|⟨rfl,rfl⟩|⟨k1,k2,h⟩
  ·exact⟨c,fc,w2,hn2,g4⟩
  ·exact⟨a,ea,w,hn,e4⟩
  ·obtain⟨b,h1,h2,h3,h4⟩:=R.ow k x h;have ha:b≠a:=λz=>by subst z;exact k1 (R.dis i k p x b e h ea h1).symm
   have hc:b≠c:=λz=>by subst z;exact k2 (R.dis j k q x b f0 h fc h1).symm
   exact⟨b,h1,(own ha hc h2 h3).1,(own ha hc h2 h3).2,h4⟩
 ·obtain⟨y1,k1⟩:=key' f;obtain⟨y2,k2⟩:=key' f';exact R.dis k l y1 y2 b k1 k2 h h'
 ·obtain⟨P,d⟩:=R.dd;have na:∀ k b,P k b->b≠a:=λk b z e'=>by subst e';exact d.ow k i p b z e ea
  have nc:∀ k b,P k b->b≠c:=λk b z e'=>by subst e';exact d.ow k j q b z f0 fc
  refine⟨P,λk b z=>?_,d.dis,λk l x b z f h=>?_,λk x f=>?_⟩
  ·obtain⟨a1,⟨o',a2,a3⟩,a4⟩:=d.own k b z;have hb':=u.hb b _ a2 (na k b z) (nc k b z);refine⟨?_,⟨o',hb',a3⟩,a4⟩;cases hF:F' b with
   |none=>rfl
   |some o=>
    rcases u.fr b o hF with w|w|⟨ys,w⟩
    ·rw[a1] at w;cases w
    ·rw[a2] at w;cases w
    ·subst w;have w:=u.fh _ _ hF;rw[hb'] at w;cases w;exact absurd rfl (a3 ys)
  ·obtain⟨y,k1⟩:=key' f;exact d.ow k l y b z k1 h
  ·rcases get_set f with⟨h1,h2⟩|⟨h1,h2⟩
   ·cases h2
   ·rcases get_set h2 with⟨h3,h4⟩|⟨h3,h4⟩
    ·cases h4
    ·obtain⟨w',k1,k2⟩:=d.dp k x h4;exact⟨w',k1,k2.up u.ff (λb o z q=>u.hb b o q (na k b z) (nc k b z)) λb ys q=>u.hb b _ q (λz=>by subst z;exact e2.yu q) λz=>by subst z;exact g2.yu q⟩
def zg(i j:Nat)(g:Fn (List PV)):Fn (List PV):=λZ=>match ownAt i Z,ownAt j Z with
 |some p,some q=>bnd (g Z) λl=>some (.ok (p::q::l))
 |_,_=>none
def Lb(i j:Nat)(m:List PV->Option (Res PV))(g:Fn (List PV)):Sn:=λZ=>fZ (zg i j g Z) λl=>match m l with
 |some (.ok (.tup [p',q']))=>some (.nx ((Z.set i (some (.ow p'))).set j (some (.ow q'))))
 |_=>none
theorem R6{i j:Nat}{ts:TA}{g:Fn (List PV)}{m:List PV->Option (Res PV)}(ij:i≠j)(h:MA K C ts g):MS K C (zB (zJ (Ar K m) [] C.E (kO (lJ i) (kO (lJ j) ts)))) (Lb i j m g):=by
 intro F H O Z D o R e P;unfold Lb zg at e;cases hp:ownAt i Z with
 |none=>rw[hp] at e;cases e
 |some p=>
 cases hq:ownAt j Z with
 |none=>rw[hp,hq] at e;cases e
 |some q=>
 rw[hp,hq] at e;have ep:=bJ hp;have eq:=bJ hq;obtain⟨a,ea,_⟩:=R.ow i p ep;obtain⟨c,ec,_⟩:=R.ow j q eq;refine⟨_,ea,_,ec,?_⟩;rcases cQ e with⟨z,e1,rfl⟩|⟨l,e1,e2⟩
 ·rcases bM e1 with⟨z',e3,ez⟩|⟨l,e3,e4⟩
  ·cases ez;exact h F H O Z _ _ R e3 P
  ·cases e4
 ·rcases bM e1 with⟨z',e3,ez⟩|⟨l',e3,e4⟩
  ·cases ez
  cases e4;refine h F H O Z _ _ R e3 λxs F1 H1 u rr=>?_;have R1:=R.up u;obtain⟨a',ea',w1,n1,_⟩:=R1.ow i p ep;obtain⟨c',ec',w2,n2,_⟩:=R1.ow j q eq;rw[ea] at ea';cases ea';rw[ec] at ec';cases ec';have ac:a≠c:=λz=>by subst z;exact ij (R.dis i j p q a ep eq ea ec)
  split at e2
  ·rename_i p' q' hm;cases e2;refine⟨p::q::l',F1,a,c,p,q,p',q',u.fh,⟨by simp[rr.1],rfl,rfl,rfl,rfl,λk x r hk ex er=>?_⟩,ac,w1,n1,w2,n2,hm,λF2 H2 u2 o1 m1 o2 m2=>?_⟩
   ·obtain⟨k,rfl⟩:∃ k',k=k'+2:=⟨k-2,by omega⟩
    exact rr.2 k x r (by simpa using ex) (by simpa using er)
   ·exact P F2 H2 O (u.ff.trans u2.ff) (R1.Zg ij ep ea eq ec u2 o1 m1 o2 m2)
  ·cases e2
theorem vQ{k i:Nat}{te tb:TE}{fe fk:Fn PV}(he:MJ K C (aF K) te fe)(hk:MJ K C (aF K) tb fk):MSk K C k (Q5 (lJ i) tb te) (lq i fe fk):=by
 intro F H O Z D o R e P;refine he.RV R e P λp v F1 H1 hk1 u a=>?_;split at hk1
 case h_2=>cases hk1
 rename_i d hd;obtain⟨b,g1,_⟩:=R.ow i _ (bJ hd);refine⟨_,g1,hk.RV (R.up u) hk1 (P.up u.ff) λkk w F2 H2 hk2 u2 rk=>?_⟩;split at hk2
 case h_2=>cases hk2
 rename_i d' hd';cases hk2;have R2:=R.up (u.trans u2);obtain⟨a',k1,k2,_⟩:=R2.ow i _ (bJ hd);rw[g1] at k1;cases k1;obtain⟨ob,g,w'⟩:=Gb u2.fh k2 rk (Rep.up a u2.ff) hd';exact⟨b,_,rfl,g,P F2 _ O (u.trans u2).ff (R2.write (bJ hd) g1 w') rfl⟩
theorem Eb{k:Nat}{c:TT}{fc:Fn Bool}{f:Sn}(n:Nat)(hc:MT K C c fc)(hb:MSk K C k t f):MSk K C k (Ks c t) (kW fc f n):=by
 intro F H O Z D o R e P;refine⟨λm O' H'=>∃ F' Z',aU F F'/\RE K C.toCf F' H' O' Z'/\O'[k]?=O[k]?/\kW fc f m Z'=some o,⟨n,F,Z,aU.refl _,R,rfl,e⟩,?_⟩;rintro m O' H' ⟨F',Z',s,R',kk,e'⟩;cases m with
 |zero=>cases e'
 |succ m=>
  refine hc.RV R' e' (P.up s) λb F1 H1 hk u=>?_;have sF:aU F F1:=s.trans u.ff;have R1:=R'.up u;cases b with
  |false=>
   rw[Zal (by decide)] at hk ⊢
   cases hk;exact P F1 H1 O' sF R1 kk
  |true=>
   rw[Zam rfl] at hk ⊢;refine⟨λσ2 H2=>∃ F2 Z2,aU F F2/\RE K C.toCf F2 H2 σ2 Z2/\σ2[k]?=O[k]?/\kW fc f m Z2=some o,λσ2 H2 ⟨F2,Z2,s2,R2,k2,e2⟩=>⟨m,Zcz _,F2,Z2,s2,R2,k2,e2⟩,?_⟩;split at hk
   ·rename_i Z2 h2;exact hb F1 H1 O' Z' _ _ R1 h2 λF3 H3 σ3 s3 R3 k3=>⟨F3,Z2,sF.trans s3,R3,k3.trans kk,hk⟩
   ·rename_i Z2 h2;exact hb F1 H1 O' Z' _ _ R1 h2 λF3 H3 σ3 s3 R3 k3=>⟨F3,Z2,sF.trans s3,R3,k3.trans kk,hk⟩
   ·rename_i Z2 h2;cases hk;exact hb F1 H1 O' Z' _ _ R1 h2 λF3 H3 σ3 s3 R3 k3=>P F3 H3 σ3 (sF.trans s3) R3 (k3.trans kk)
   ·rename_i n1 n2 n3;cases o with
    |nx Z2=>exact absurd hk (n1 Z2)
    |ct Z2=>exact absurd hk (n2 Z2)
    |bk Z2=>exact absurd hk (n3 Z2)
    |rt p=>exact hb F1 H1 O' Z' _ _ R1 hk (POk.up (D:=D) (c:=O[k]?) P sF)
    |ro p=>exact hb F1 H1 O' Z' _ _ R1 hk (POk.up (D:=D) (c:=O[k]?) P sF)
    |rd p=>exact hb F1 H1 O' Z' _ _ R1 hk (POk.up (D:=D) (c:=O[k]?) P sF)
    |ex z=>exact hb F1 H1 O' Z' _ _ R1 hk (PX.up P sF)
end
end L2.MP
namespace L2
open PySem PySem.Spec PyProof PyProof.Rows
def srt(ns:List Int):List Int:=ns.mergeSort λa b=>decide (a<=b)
theorem gZ(ns:List Int):(srt ns).Perm ns:=List.mergeSort_perm ns _
theorem uz(ns:List Int):(srt ns).Pairwise (·<=·):=by
 have:=List.pairwise_mergeSort (le:=λa b:Int=>decide (a<=b)) (λa b c h1 h2=>by simp at h1 h2 ⊢;omega) (λa b=>by simp;omega) ns
 exact this.imp λh=>by simpa using h
theorem qI:∀ {l m:List Int},l.Perm m->l.Pairwise (·<=·)->m.Pairwise (·<=·)->l=m
 |[],m,p,_,_=>p.nil_eq
 |a::l,[],p,_,_=>absurd p.eq_nil (by simp)
 |a::l,b::m,p,hl,hm=>by
  have hab:a=b:=by
   have h1:b∈a::l:=p.symm.subset Zax;have h2:a∈b::m:=p.subset Zax;have l1:=(ZbC.mp hl).1;have m1:=(ZbC.mp hm).1;rcases ZaC.mp h1 with e|h1
   ·exact e.symm
   ·rcases ZaC.mp h2 with e|h2
    ·exact e
    ·have:=l1 b h1;have:=m1 a h2;omega
  subst hab;rw[qI (List.Perm.cons_inv p) (ZbC.mp hl).2 (ZbC.mp hm).2]
theorem vR{vs:List Value}{ns:List Int}(h:IntsAre vs ns):Vals (ns.map V.int) vs:=by
 induction h with
 |nil=>exact .nil
 |cons n t _ ih=>exact .cons ⟨t,rfl⟩ ih
def Wm(K:Frag):List V->Hp->VK->Prop:=λxs H Q=>∃ p ns,xs=[.ref p]/\SqL K H p (ns.map V.int)/\ns.length<64/\∀ l,H l=none->Q (.ref l) (upd H l (.lst ((srt ns).map V.int)))
section
variable{X:Cx}
theorem IV:jR X (.builtin "sorted") (Wm X.K):=by
 intro pins s O H xs us Q I rv h;obtain⟨p,ns,rfl,hq,h64,q⟩:=h;obtain⟨u,rfl,ru⟩:=rv.one;cases ru;obtain⟨its,r,pl,hz⟩:=I.list hq;have hi:=MP.Aa r;have hl:its.length=ns.length:=by have:=r.length;simpa using this.symm
 refine sorted_ints pl.isList hi (by omega) λout ns' a1 a2 a3=>?_
 obtain⟨e,he⟩:=sortedAll_at s.heap its out;have en:ns'=srt ns:=qI (a2.trans (gZ ns).symm) a3 (uz ns);subst en;have fresh:H (s.heap.objs.size+1)=none:=I.hok.fresh (ZbQ _);refine⟨.ref (s.heap.objs.size+1),upd H (s.heap.objs.size+1) (.lst ((srt ns).map V.int)),I.laid (t':=s.toks) (λb o=>sortedAll_old) (ZbQ _) ⟨?_,out.toList,e,vR a1,by rw[Array.toArray_toList];exact he⟩,rfl,q _ fresh⟩
 rw[Zab,(gZ ns).length_eq];exact ZaI (ZaA h64) (by decide)
end
namespace MP
def Av(l:List PV):Option (Res PV):=match gR l with
 |some ns=>if ns.length<64 then some (.ok (.lst ((srt ns).map .int))) else none
 |none=>none
section
variable{K:Frag}{C:Cg}
theorem XH:R1O K C (aV K) (Wm K) Av:=by
 intro F H x a res Q s ha e P;unfold Av at e;cases h:gR a with
 |none=>rw[h] at e;cases e
 |some ns=>
  rw[h] at e;have e:(if ns.length<64 then some (Res.ok (PV.lst ((srt ns).map .int))) else none)=some res:=e;split at e
  ·rename_i h64;cases e;obtain⟨b,xs,rfl,h1,r1⟩:=ha;have ex:xs=ns.map V.int:=DP h r1;subst ex;exact⟨b,ns,rfl,h1,h64,λl hl=>P l F _ (Up.Cz s hl) hl (s.free hl) ⟨_,aN,bG.vq _⟩⟩
  ·cases e
end
end MP
def Itp(a:Addr)(raw:Obj)(kvs:List (Key×V)):It:=
 ⟨λi H=>H a=some (.frz raw (.dK kvs))/\i<kvs.length,λi H x H'=>∃ p kv,H p=none/\kvs[i]?=some kv/\x=.ref p/\H'=upd H p (.tup [kV kv.1,kv.2]),λi H=>H a=some (.frz raw (.dK kvs))/\i=kvs.length⟩
theorem XJ{P:Program}{w:World}{kvs:List (Key×V)}{vs:List (Key×Value)}(r:KV kvs vs){i:Nat}{p:Key×V}(e:kvs[i]?=some p):∃ u,vs[i]?=some (p.1,u)/\RelV p.2 u:=by
 induction r generalizing i with
 |nil=>cases i<;>cases e
 |@cons a b as bs h t ih=>
  cases i with
  |zero=>
   cases e;obtain⟨b1,b2⟩:=b;obtain⟨h1,h2⟩:=h;exact⟨b2,by rw[List.getElem?_cons_zero,h1],h2⟩
  |succ i=>rw[Zcq] at e;obtain⟨u,q1,q2⟩:=ih e;exact⟨u,by rw[Zcq];exact q1,q2⟩
theorem Ld{P:Program}{w:World}{K:Frag}{elts:List Expr}{x1:Nat}{pos:Pos}(a it:Addr)(raw:Obj)(kvs:List (Key×V)){es:Array DictEntry}{ep:Nat}(hd:raw.data=.dict es ep) :
  Turn P w K (.Tuple elts x1 pos) (Itp a raw kvs) [it] it (λi h=>∃ ok ov,IsItemIter h it a i kvs.length ep ok ov) where
 mem:=by simp
 obj:=λi h st b hb=>by
  have e:b=it:=by simpa using hb
  subst e;obtain⟨ok,ov,e⟩:=st;exact⟨_,e,λv z=>by cases z⟩
 keep:=λi h h' st k=>by
  obtain⟨ok,ov,e⟩:=st;exact⟨ok,ov,k it (by simp) _ e⟩
 item:=by
  intro X hP hw hK hc i pins s O H E I hf st hg;subst hP hw hK;obtain⟨e,hi⟩:=hg;obtain⟨ok,ov,ei⟩:=st;obtain⟨f0,f1,f2,f3,f4,f5⟩:=hf it (by simp)
  obtain⟨_,vs,kv,dd⟩:=rK I.hok e hd;have hl:=kv.length;obtain⟨p,hp⟩:∃ p,kvs[i]?=some p:=⟨_,Zae hi⟩;obtain⟨u,hu,ru⟩:=XJ (P:=X.prog) (w:=X.w) kv hp;refine wpAny_pyNext_items_item (knd:=bN X.prog X.w) (by rw[<-hl];exact ei) dd hu λkey h3 hk e3 n3 sz3 k3=>?_
  refine⟨_,rfl,wpAny_letOwnedTupleGo_items e3 λh4 e4 s4=>?_⟩;have ilt:it<s.heap.objs.size:=Zau ei;have hT2:IsPair h4 s.heap.objs.size key u:=(s4.2 _ (Zb4 ilt)).trans n3;refine⟨.ref s.heap.objs.size,upd H s.heap.objs.size (.tup [kV p.1,p.2]),I.rE (ch:=[it]) (λb' o hb q=>?_) hf (Zan _) ⟨by show 2<=sizeLine;decide,[key,u],.cons (Ge hk) (.cons ru .nil),gb.mk hT2⟩,rfl,⟨_,p,I.hok.fresh (Zan _),hp,rfl,rfl⟩,⟨key,u,by rw[hl];exact e4⟩,λb' hb=>?_⟩
  ·have q1:b'≠it:=λe=>hb (by simp[e])
   exact(s4.2 b' q1).trans (k3 b' o q1 q)
  ·have e:b'=it:=by simpa using hb
   subst e;rw[aJ (ZaE ilt)];exact f0
 done:=by
  intro X hP hw hK hc i pins s O H E I hf st hg;subst hP hw hK;obtain⟨e,hi⟩:=hg;obtain⟨ok,ov,ei⟩:=st;obtain⟨_,vs,kv,dd⟩:=rK I.hok e hd;have hl:=kv.length;refine wpAny_pyNext_items_end (knd:=bN X.prog X.w) (I.ok.hd hc) (by rw[<-hl];exact ei) dd (by rw[ZbR];omega) λh' k=>⟨rfl,?_⟩
  exact I.rD (t':=s.toks) (ch:=[it]) (λb' o hb q=>k b' o (λe=>hb (by simp[e])) q) hf
 self:=λA i s Q E st h=>by
  obtain⟨ok,ov,e⟩:=st;exact PySem.W.kcp_self e h
def R7(tl:TE):TI:=λO H R=>tl O H λx H1=>∃ a raw kvs,x=.ref a/\H1 a=some (.frz raw (.dK kvs))/\R (Itp a raw kvs) H1
theorem R8{X:Cx}{o:Expr}{apos cpos tpos:Pos}{elts:List Expr}{x1:Nat}{tl:TE}(hl:PE X o tl)(hbase:attributeBase o "items" X.env (eval o X.env)=eval o X.env:=by rfl)(hline:(apos.endLine==cpos.line)=true:=by rfl) :
  PI X (.Tuple elts x1 tpos) (.Call (.Attribute o "items" apos) [] [] cpos) (R7 tl):=by
 intro pins s O H R I h;refine wpAny_Call_method (T:="dict") (id:="dict.items") hbase rfl hline ZbD ZbW PySem.F.type_dict_items (thn (hl pins s O H _ I h) ?_);rintro u s1 ⟨x,H1,I1,rx,q1⟩;obtain⟨a,raw,kvs,e,ha,q⟩:=q1;subst e;obtain rfl:u=Value.ref a:=rx;obtain⟨t1,t2,_⟩:=zN I1 (.inl ⟨kvs,.inr ⟨raw,ha⟩⟩);refine⟨t1,t2,?_⟩;obtain⟨es,ep,hd⟩:∃ es ep,raw.data=.dict es ep:=by
  obtain⟨hr,_,hs,vs,kv,o,es',ep',h1,h2,h3,h4⟩:=(show dG X.prog X.w H1 s1.heap a (.frz raw (.dK kvs)) from I1.hok a _ ha);rw[hr] at h1;cases h1;exact⟨_,_,h3⟩
 obtain⟨hs,vs,kv,dd⟩:=rK I1.hok ha hd;show wpAny _ _ (callWith cpos (.builtin "dict.items") [.ref a] [] []) _ _ s1
 refine method_meetsIn ZbW PySem.F.entry_dict_items rfl (PySem.evalArgs_none ⟨rfl,t1,ZcO _,_,meets_dict_items (bN X.prog X.w) a hs,⟨vs,Heap.DictAt.dictOf dd⟩,?_⟩);have hsz:(s1.heap.push { cls:=.type "dict_items",data:=.fields #[.ref a] }).objs.size=s1.heap.objs.size+1:=Heap.size_push ..;refine wpAny_pyIter_items (knd:=bN X.prog X.w) (d:=a) (kvs:=vs) (ep:=ep) ⟨_,Zar _ rfl,rfl,rfl⟩ (dd.push _) ?_;refine⟨(s1.heap.push { cls:=.type "dict_items",data:=.fields #[.ref a] }).objs.size,[(s1.heap.push { cls:=.type "dict_items",data:=.fields #[.ref a] }).objs.size],_,_,H1,rfl,I1.kept (t':=s1.toks) λb o e=>Zaj _ (Zaj _ e),Ld a _ raw kvs hd,⟨.none,.none,?_⟩,λb hb=>?_,q⟩
 ·rw[kv.length];exact Zar _ rfl
 ·have e:b=s1.heap.objs.size+1:=by simpa[hsz] using hb
  subst e;exact I1.Cv (ZbQ _) (I1.hok.fresh (ZbQ _))
namespace MP
def uA(l:List (Key×PV)):List PV:=l.map λkv=>.tup [Ik kv.1,kv.2]
def Aw:PV->Option (Res (List PV))
 |.dk l=>some (.ok (uA l))
 |_=>none
section
variable{K:Frag}{C:Cg}
theorem Pz(i:Nat):Py K C i (R7 (lJ i)) (m1 Aw (mV i)):=by
 intro F H O Z R' r R hh e P;rcases bM e with⟨z,e1,rfl⟩|⟨p,e1,hk⟩
 ·unfold mV at e1;split at e1
  ·cases e1
  ·cases e1
 obtain⟨a,raw,u,ev,fa,hu⟩:=hh;have hp:Z[i]?=some (some (.sh p)):=by
  unfold mV at e1;split at e1
  ·rename_i q hq;cases e1;exact hq
  ·cases e1
 match p,hk with
 |.dk l,hk=>
  cases hk;obtain⟨v,ev',rv⟩:=R.sh i _ hp;rw[ev] at ev';cases ev';cases rv with
  |@dk _ xs _ h hl hr=>
   have hx:u=.dK xs:=by
    rcases h with h|⟨o,h⟩
    ·rw[fa] at h;cases h
    ·rw[fa] at h;cases h;rfl
   subst hx;have len:xs.length=l.length:=by have:=ZaY List.length hl;simpa using this
   refine⟨_,ev,a,raw,xs,rfl,R.rb.sub _ _ fa,P _ F H (Up.refl R.rb.sub) ⟨λF' H' s s'=>?_,λj F' H' hj s s'=>?_,λj F' H' x H'' hj s s' y=>?_⟩⟩
   ·exact⟨s' _ _ (s _ _ fa),by unfold uA;rw[Zab];exact len.symm⟩
   ·refine⟨s' _ _ (s _ _ fa),?_⟩;unfold uA at hj;rw[Zab] at hj;omega
   ·obtain⟨p,kv,hp,hkv,rfl,rfl⟩:=y;have hl2:(l.map (·.1))[j]?=some kv.1:=by rw[<-hl,Zac,hkv];rfl
    rw[Zac] at hl2;cases q:l[j]? with
    |none=>rw[q] at hl2;cases hl2
    |some w=>
     rw[q] at hl2;have ew:w.1=kv.1:=Zaf hl2;have un:=Up.new (o:=.tup [kV kv.1,kv.2]) s' hp;refine⟨_,.tup [Ik w.1,w.2],un,?_,.tup aN rfl λn x p' hx hp'=>?_⟩
     ·unfold uA;rw[Zac,q];rfl
     ·match n with
      |0=>simp at hx hp';subst hx hp';rw[ew];exact Gf
      |1=>simp at hx hp';subst hx hp';exact(hr j _ _ hkv q).up (s.trans un.ff)
      |n+2=>simp at hx
end
end MP
def oF:List Key->Option (List Int)
 |[]=>some []
 |.inl n::ks=>(oF ks).map (n::·)
 |.inr _::_=>none
theorem vU:∀ {ks:List Key}{ns:List Int},oF ks=some ns->ns.length=ks.length
 |[],ns,e=>by cases e;rfl
 |.inl n::ks,ns,e=>by
  simp only[oF,Zbo] at e;obtain⟨ms,e,rfl⟩:=e;simp[vU e]
 |.inr _::_,ns,e=>by cases e
theorem vV{P:Program}{w:World}:∀ {ks:List Key}{ns:List Int}{vs:List Value},oF ks=some ns->vs.length=ks.length->(∀ (j:Nat) v,vs[j]?=some v->∃ k,ks[j]?=some k/\(bN P w).is k v=true)->IntsAre vs ns
 |[],ns,vs,e,hl,h=>by
  cases e;cases vs with
  |nil=>exact .nil
  |cons v vs=>cases hl
 |.inl n::ks,ns,vs,e,hl,h=>by
  simp only[oF,Zbo] at e;obtain⟨ms,e,rfl⟩:=e;cases vs with
  |nil=>cases hl
  |cons v vs=>
   obtain⟨k,e0,hk⟩:=h 0 v rfl;cases e0;obtain⟨t,rfl⟩:RelV (kV (.inl n)) v:=Ge hk;exact .cons n t (vV (P:=P) (w:=w) e (by simpa using hl) λj v hv=>h (j+1) v hv)
 |.inr _::_,ns,vs,e,hl,h=>by cases e
theorem vW{h:Heap}{vs:List Value}{out:Array Value}{b:Addr}{o:Obj}(hb:h.get? b=some o):(sortedHeap (h.push (seqObj "list" vs.toArray 0)) h.objs.size vs out).get? b=some o:=by
 have hlt:b<h.objs.size:=Zau hb;rw[sortedHeap_old (ZaE hlt) (by rw[size_push'];exact ZcS hlt)]
 exact Zaj _ hb
def R9:List V->Hp->VK->Prop:=λxs H Q=>∃ p kvs ns,xs=[.ref p]/\Rd H p (.dK kvs)/\oF (kvs.map (·.1))=some ns/\ns.length<64/\∀ l,H l=none->Q (.ref l) (upd H l (.lst ((srt ns).map V.int)))
section
variable{X:Cx}
theorem Gg(hc:X.calm=true):jR X (.builtin "sorted") R9:=by
 intro pins s O H xs us Q I rv h;obtain⟨p,kvs,ns,rfl,e,hk,h64,q⟩:=h;obtain⟨u,rfl,ru⟩:=rv.one;cases ru;obtain⟨z,hd,vs,rel,dd⟩:=vh I.hok e;obtain⟨o,es,ep,d1,d2,d3,d4⟩:=dd;have hl:=rel.length;have hn:ns.length=kvs.length:=by have:=vU hk;simpa using this
 refine Zcf kind_sorted plain_sorted entry_sorted (args_sorted1 _) ?_;unfold Builtin.«sorted»;refine Zaa (m:=checkCount "sorted" 1 1 _) (Zah ?_);refine Zaa (PySem.W.kdu_collect (PySem.W.kdl_dict (knd:=bN X.prog X.w) (kvs:=vs) (ep:=ep) hd) (I.ok.hd hc) ⟨o,es,d1,d2,d3,d4⟩ (by omega) λh' tk acc hold hacc=>?_)
 have hla:acc.toList.length=vs.length:=by rw[ZaR];exact hacc.1
 have hia:IntsAre acc.toList ns:=vV (P:=X.prog) (w:=X.w) hk (by rw[hla,Zab,hl]) λj v hv=>by
  obtain⟨k,x,q1,q2⟩:=hacc.2 j v (by rw[<-Zbq];exact hv)
  refine⟨k,?_,q2⟩;rw[rel.keys,Zac,q1];rfl
 refine Zaa (wpAny_newList ?_ (by rw[hla];omega))
 have hoL:(h'.push (seqObj "list" acc.toList.toArray 0)).get? h'.objs.size=some (seqObj "list" acc.toList.toArray 0):=Zar _ rfl;show wpAny _ _ _ _ _ { s with heap:=h'.push (seqObj "list" acc.toList.toArray 0),toks:=tk }
 refine Zaa (wpAny_holding (wpAny_call_entry slot_list_sort ⟨_,hoL,rfl⟩ entry_list_sort (list_sort_tree hoL hia (by omega) λout ns' a1 a2 a3=>⟨_,rfl,?_⟩) (args_list_sort _)))
 refine Zah ⟨_,rfl,?_⟩;obtain⟨e',he⟩:=sortedHeap_at (out:=out) hoL;have en:ns'=srt ns:=qI (a2.trans (gZ ns).symm) a3 (uz ns);subst en;have I1:Inv X pins O H { s with heap:=h',toks:=tk }:=I.kept hold;have fresh:H h'.objs.size=none:=I1.hok.fresh (Zan _);refine⟨.ref h'.objs.size,upd H h'.objs.size (.lst ((srt ns).map V.int)),I1.laid (t':=tk) (λb o=>vW) (Zan _) ⟨?_,out.toList,e',vR a1,by rw[Array.toArray_toList];exact he⟩,rfl,q _ fresh⟩
 rw[Zab,(gZ ns).length_eq];exact ZaI (ZaA h64) (by decide)
end
namespace MP
def vX:PV->Option (Res PV)
 |.dk l=>match oF (l.map (·.1)) with
  |some ns=>if ns.length<64 then some (.ok (.lst ((srt ns).map .int))) else none
  |none=>none
 |_=>none
section
variable{K:Frag}{C:Cg}
theorem Vb:R1O K C (aD K) R9 vX:=by
 intro F H x a res Q s ha e P
 match a,e with
 |.dk l,e=>
  obtain⟨_,ad,rfl,xs,h1,h2,h3⟩:=ha;replace e:(match oF (l.map (·.1)) with
   |some ns=>if ns.length<64 then some (Res.ok (PV.lst ((srt ns).map .int))) else none
   |none=>none)=some res:=e
  cases h:oF (l.map (·.1)) with
  |none=>rw[h] at e;cases e
  |some ns=>
   rw[h] at e;have e:(if ns.length<64 then some (Res.ok (PV.lst ((srt ns).map .int))) else none)=some res:=e;split at e
   ·rename_i h64;cases e;exact⟨ad,xs,ns,rfl,h1,by rw[h2];exact h,h64,λl' hl=>P l' F _ (Up.Cz s hl) hl (s.free hl) ⟨_,aN,bG.vq _⟩⟩
   ·cases e
end
end MP
end L2
namespace L2.MP
open PySem PySem.Spec PyProof.Rows
section
variable{K:Frag}{C:Cg}{te:TE}{F F' G H H1 H':Hp}{O:St}{Z:Rho}{D:Ends}{t:TS}{f:Sn}{o:Out}{S:Addr->Prop}{v:V}{p:PV}
theorem Rep.uh:∀ {n:Nat}{v:V}{p:PV},Rep K F v p->MP.uh n p=true->(∀ b ys,F b=some (.tup ys)->G b=some (.tup ys))->Rep K G v p
 |0,v,p,h,hs,g=>h.free hs
 |n+1,v,p,h,hs,g=>by
  cases h with
  |non=>exact .non
  |bl=>exact .bl
  |int=>exact .int
  |str=>exact .str
  |ty=>exact .ty
  |tup h hl hr=>exact .tup (g _ _ h) hl λj x p a b=>(hr j x p a b).uh (n:=n) (ZaT.mp hs p (Zak b)) g
  |lst=>cases hs
  |dk=>cases hs
  |dt=>cases hs
  |exc=>cases hs
  |exc0=>cases hs
theorem Dp.toG(d:Dp K F H S v p)(g:∀ b ys,F b=some (.tup ys)->G b=some (.tup ys)):Dp K G H S v p:=by
 induction d with
 |fr h st=>exact .fr (h.uh st g) st
 |lst h hp hs dj hl _ ih=>exact .lst h hp hs dj hl ih
 |tup h hs dj hl _ ih=>exact .tup h hs dj hl ih
 |dk h hp hs dj hl _ ih=>exact .dk h hp hs dj hl ih
 |dt h hp hs dj hl _ ih=>exact .dt h hp hs dj hl ih
def Ax(m:List PV->Option (Res PV))(f:Fn (List PV)):Fn PV:=λZ=>bnd (f Z) λl=>match m l with
 |some (.ok p)=>some (.ok p)
 |_=>none
theorem IW{t:TA}{f:Fn (List PV)}{m:List PV->Option (Res PV)}(h:MAL K C t f):MD K C (zJ (spD K C.XR m) [] C.E t) (Ax m f):=by
 intro F H O Z Q r R e P;refine h.run R e P λl xs F1 H1 hk u a=>?_;split at hk
 ·rename_i p hp;cases hk;refine⟨l,H1,.ok p,aU.refl _,by rw[Zbp];exact a,hp,λv F' H' S u' d n=>?_⟩
  have s1:aU F1 H':=u.fh.trans u'.hh;refine P v (vL F1 H' λ_=>False) H' S ⟨u.ff.trans (iY s1),u.hh.trans u'.hh,λb o q=>?_,qF s1⟩ (d.toG λb ys q=>?_) λb q=>?_
  ·by_cases hb:False\/∃ ys,H' b=some (.tup ys)
   ·rw[iB hb] at q;obtain⟨ys,z⟩:=hb.resolve_left id;rw[z] at q;cases q;exact .inr (.inr ⟨ys,rfl⟩)
   ·rw[gq hb] at q;exact u.fr b o q
  ·have:=u'.fh _ _ q;rw[iB (.inr ⟨ys,this⟩)];exact this
  ·obtain⟨n1,n2,o,n3,n4⟩:=n b q;refine⟨u.hh.free n1,?_,o,n3,n4⟩;rw[gq]
   ·exact u.fh.free n1
   ·rintro(z|⟨ys,z⟩)
    ·exact z
    ·rw[n3] at z;cases z;exact n4 ys rfl
 ·cases hk
def sZ(i:Nat)(f:Sn):Sn:=λZ=>match qG i Z with
 |some p=>f (Z.set i (some (.sh p)))
 |none=>none
theorem vY(i:Nat)(h:MS K C t f):MS K C t (sZ i f):=by
 intro F H O Z D o R e P;unfold sZ at e;split at e
 ·rename_i p hp;obtain⟨S,v,_,_,_,R'⟩:=R.RW (di hp);exact h _ H O _ D o R' e (P.up (iY R.rb.sub))
 ·cases e
def ZP(C:Cf)(js:List Nat)(Z:Rho)(O:St)(H F' H':Hp)(S:Addr->Prop):Prop:=∀ b,S b->(H b=none\/∃ i p,i∈js/\Z[i]?=some (some (.ow p))/\O[i]?=some (some (.ref b)))/\F' b=none/\(∃ o,H' b=some o/\∀ ys,o≠.tup ys)/\C.H0 b=none
def MDo(K:Frag)(C:Cg)(js:List Nat)(ta:TA)(f:Fn (List PV)):Prop:=
 ∀ F H O Z Q r,RE K C.toCf F H O Z->f Z=some r->Pr C F (λl=>∀ xs F' H' S,Up F H F' H'->Dps K F' H' S xs l->ZP C.toCf js Z O H F' H' (λb=>∃ j,S j b)->Q xs H') r->ta O H Q
theorem vZ:MDo K C [] xx bf:=λF H O Z Q r R e P=>by
 cases e;exact P [] F H (λ_ _=>False) (Up.refl R.rb.sub) ⟨rfl,λ_ _ _ q=>q.elim,λj x p e=>by simp at e⟩ λb ⟨_,q⟩=>q.elim
theorem qJ{js:List Nat}{fe:Fn PV}{fs:Fn (List PV)}{ts:TA}(h:MD K C te fe)(hs:MDo K C js ts fs):MDo K C js (kO te ts) (az fe fs):=by
 intro F H O Z Q r R e P;rcases bM e with⟨z,e1,rfl⟩|⟨p,e1,hk⟩
 ·exact h F H O Z _ _ R e1 P
 refine h F H O Z _ _ R e1 λv F1 H1 S u d n=>?_;rcases bM hk with⟨z,e2,rfl⟩|⟨l,e2,hk2⟩
 ·exact hs F1 H1 O Z _ _ (R.up u) e2 (PX.up P u.ff)
 refine hs F1 H1 O Z _ _ (R.up u) e2 λxs F2 H2 S2 u2 d2 n2=>?_;cases hk2;have ap:∀ b j,S b->S2 j b->False:=λb j a1 a2=>by
  obtain⟨c0,_,o,c1,_⟩:=n b a1;rcases(n2 b ⟨j,a2⟩).1 with c2|⟨i,q,_,c2,c3⟩
  ·rw[c1] at c2;cases c2
  ·exact R.apart c0 i q c2 c3
 refine P (v::xs) F2 H2 (λj b=>match j with|0=>S b|j+1=>S2 j b) (u.trans u2) ⟨by simp[d2.1],λi j b a1 a2=>?_,λj x q a1 a2=>?_⟩ ?_
 ·match i,j,a1,a2 with
  |0,0,_,_=>rfl
  |0,j+1,a1,a2=>exact(ap b j a1 a2).elim
  |i+1,0,a1,a2=>exact(ap b i a2 a1).elim
  |i+1,j+1,a1,a2=>exact ZaY (·+1) (d2.2.1 i j b a1 a2)
 ·match j,a1,a2 with
  |0,a1,a2=>cases a1;cases a2;exact d.stay u2
  |j+1,a1,a2=>exact d2.2.2 j x q (by simpa using a1) (by simpa using a2)
 ·rintro b ⟨j,q⟩
  match j,q with
  |0,q=>
   obtain⟨c0,c1,o,c2,c3⟩:=(n.up u2) b q;exact⟨.inl c0,c1,⟨o,c2,c3⟩,R.rb.vz c0⟩
  |j+1,q=>
   obtain⟨c1,c2⟩:=n2 b ⟨j,q⟩;exact⟨c1.imp (λz=>u.hh.free z) id,c2⟩
def PV.lM:PV->Bool
 |.lst l=>l.all PV.still
 |.dk l=>l.all λkv=>kv.2.still
 |.dt l=>l.all λkv=>kv.2.still
 |_=>false
def mj(i:Nat):Fn PV:=λZ=>match ownAt i Z with
 |some p=>if p.lM=true then some (.ok p) else none
 |none=>none
theorem Own.dp{a:Addr}(w:Own K F H a p)(h:p.lM=true):Dp K F H (λb=>b=a) (.ref a) p:=by
 cases p with
 |lst l=>
  obtain⟨xs,e2,e3⟩:=w;exact .lst (S:=λ_ _=>False) e2 rfl (λj b q=>q.elim) (λi j b q=>q.elim) e3.1 λj x p e4 e5=>.fr (e3.2 j x p e4 e5) (ZaT.mp h p (Zak e5))
 |dk l=>
  obtain⟨xs,e2,e3,e4⟩:=w;exact .dk (S:=λ_ _=>False) e2 rfl (λj b q=>q.elim) (λi j b q=>q.elim) e3 λj x p e5 e6=>.fr (e4 j x p e5 e6) (ZaT.mp h p (Zak e6))
 |dt l=>
  obtain⟨xs,e2,e3,e4⟩:=w;exact .dt (S:=λ_ _=>False) e2 rfl (λj b q=>q.elim) (λi j b q=>q.elim) e3 λj x p e5 e6=>.fr (e4 j x p e5 e6) (ZaT.mp h p (Zak e6))
 |_=>cases h
theorem lN{js:List Nat}(i:Nat){fs:Fn (List PV)}{ts:TA}(hio:∀ a,¬C.io a)(hi:i ∉ js)(hs:MDo K C js ts fs):MDo K C (i::js) (kO (lJ i) ts) (az (mj i) fs):=by
 intro F H O Z Q r R e P;rcases bM e with⟨z,e1,rfl⟩|⟨p,e1,hk⟩
 ·unfold mj at e1;split at e1
  ·split at e1<;>cases e1
  ·cases e1
 have hp:Z[i]?=some (some (.ow p))/\p.lM=true:=by
  unfold mj at e1;split at e1
  ·rename_i q hq;split at e1
   ·rename_i sh;cases e1;exact⟨bJ hq,sh⟩
   ·cases e1
  ·cases e1
 obtain⟨a,ea,w,na,e4⟩:=R.ow i p hp.1;refine⟨_,ea,?_⟩;rcases bM hk with⟨z,e2,rfl⟩|⟨l,e2,hk2⟩
 ·exact hs F H O Z _ _ R e2 P
 refine hs F H O Z _ _ R e2 λxs F2 H2 S2 u2 d2 n2=>?_;cases hk2;obtain⟨a',ea',w2,na2,_⟩:=(R.up u2).ow i p hp.1;rw[ea] at ea';cases ea';obtain⟨ob,eob⟩:=w.ne;have ap:∀ j,S2 j a->False:=λj q=>by
  rcases(n2 a ⟨j,q⟩).1 with c|⟨k,q',hk',c2,c3⟩
  ·rw[eob] at c;cases c
  ·have:=R.dis i k p q' a hp.1 c2 ea c3;subst this;exact hi hk'
 refine P (.ref a::xs) F2 H2 (λj b=>match j with|0=>b=a|j+1=>S2 j b) u2 ⟨by simp[d2.1],λi j b a1 a2=>?_,λj x q a1 a2=>?_⟩ ?_
 ·match i,j,a1,a2 with
  |0,0,_,_=>rfl
  |0,j+1,a1,a2=>cases a1;exact(ap j a2).elim
  |i+1,0,a1,a2=>cases a2;exact(ap i a1).elim
  |i+1,j+1,a1,a2=>exact ZaY (·+1) (d2.2.1 i j b a1 a2)
 ·match j,a1,a2 with
  |0,a1,a2=>cases a1;cases a2;exact w2.dp hp.2
  |j+1,a1,a2=>exact d2.2.2 j x q (by simpa using a1) (by simpa using a2)
 ·rintro b ⟨j,q⟩
  match j,q with
  |0,q=>
   cases q;obtain⟨ob2,eob2⟩:=w2.ne;exact⟨.inr ⟨i,p,Zax,hp.1,ea⟩,na2,⟨ob2,eob2,λys z=>by subst z;exact w2.yu eob2⟩,(e4.resolve_left (hio a)).2⟩
  |j+1,q=>
   obtain⟨c1,c2⟩:=n2 b ⟨j,q⟩;exact⟨c1.imp id λ⟨k,q',hk',z⟩=>⟨k,q',Zat _ hk',z⟩,c2⟩
def yC(fs:Fn (List PV)):Sn:=λZ=>fZ (fs Z) λl=>if l.length<=sizeLine then some (.rd (.tup l)) else none
theorem wg{js:List Nat}{fs:Fn (List PV)}{ts:TA}(h:MDo K C js ts fs):MS K C (Ot (W8 ts)) (yC fs):=by
 intro F H O Z D o R e P;rcases cQ e with⟨z,e1,rfl⟩|⟨l,e1,hk⟩
 ·exact h F H O Z _ _ R e1 P
 split at hk
 ·rename_i hl;cases hk;refine h F H O Z _ _ R e1 λxs F1 H1 S u d n=>⟨by rw[d.1];exact hl,λa ha=>?_⟩
  have u2:Up F1 H1 F1 (upd H1 a (.tup xs)):=⟨aU.refl _,dU ha,λ_ _ q=>.inl q,λb o q=>by rw[aJ (λz=>by subst z;have:=u.fh _ _ q;rw[ha] at this;cases this)];exact u.fh b o q⟩
  refine P (.ref a) F1 _ (λb=>∃ j,S j b) u.ff (R.rb.up (u.trans u2)) (.tup aN (λj b q=>⟨j,q⟩) d.2.1 d.1 λj x p a1 a2=>(d.2.2 j x p a1 a2).stay u2) λb q=>?_;obtain⟨_,c1,⟨o,c2,c3⟩,c4⟩:=n b q;exact⟨c1,⟨o,u2.hh _ _ c2,c3⟩,c4⟩
 ·cases hk
end
open PySem PySem.Spec PyProof PyProof.Rows
section
variable{K:Frag}{F H:Hp}{S:Addr->Prop}{p:PV}
theorem Dp.none{b:Addr}(sb:S b):Dp K F (upd H b (.lst [])) S (.ref b) (.lst []):=
 .lst (S:=λ_ _=>False) aN sb (λ_ _ z=>z.elim) (λ_ _ _ z=>z.elim) rfl λj x p e1=>by simp at e1
end
end L2.MP
namespace L2
open PySem PySem.Spec PyProof PyProof.Rows
def sU(h:Heap)(d:Addr)(es:Array DictEntry)(ep:Nat):Prop:=∃ o,h.get? d=some o/\o.ExactDict/\o.data=.dict es ep
section
variable{prog:Program}{w:World}{A:Around}{E:Value->Shared->Prop}{s:Shared}{h h':Heap}{d it:Addr}{es:Array DictEntry}{ep i:Nat}
theorem sU.step(r:sU h d es ep)(k:∀ o,h.get? d=some o->h'.get? d=some o):sU h' d es ep:=by
 obtain⟨o,e,q⟩:=r;exact⟨o,k o e,q⟩
theorem sU.small(r:sU h d es ep):d<h.objs.size:=by obtain⟨o,e,_⟩:=r;exact Zau e
theorem sU.ty(r:sU s.heap d es ep):s.TypeIs (.ref d) "dict":=by
 obtain⟨o,e,c,_⟩:=r;exact⟨o,e,c.1⟩
theorem Ja{Q:Value->Shared->Prop}(nd:(d==sysModules)=false)(r:sU s.heap d es ep)
  (q:Q (.ref s.heap.objs.size) { s with heap:=s.heap.push { cls:=.type "dict_keyiterator",data:=.fields #[.ref d,.int 0 0,.int es.size 0,.int ep 0] } }):wpAny (model prog w) A (pyIter (.ref d)) Q E s:=by
 obtain⟨o,e1,e2,e3⟩:=id r;refine wpAny_pyIter_slot r.ty PySem.F.slot_dict_iter (wpAny_call_entry PySem.F.slot_dict_iter r.ty PySem.F.entry_dict_iter ?_ (PySem.F.args_dict_iter_1 _));unfold Builtin.«dict.__iter__»;refine Zaa (m:=Builtin.Dict.dictSlotNone _ _) ?_;unfold Builtin.Dict.dictSlotNone;refine Zaa (wpAny_notOrdered_dict r.ty (Zah ?_));show wpAny _ _ (Builtin.Dict.showsAll d>>=_) _ _ _
 unfold Builtin.Dict.showsAll;rw[nd,Zal Zbe];refine Zaa (Zah (Zaa (wpAny_dictEntries e1 e3 (Zaa (wpAny_dictEpoch e1 e3 ?_)))));refine Zaa (Za0 (Zah ⟨_,rfl,"dict_keyiterator",_,⟨_,Zar _ rfl,rfl⟩,Zba.lookup,?_⟩));simpa[rawInt] using q
theorem Sg{Q:Option Value->Shared->Prop}{x:DictEntry}(hi:s.heap.IsKeyIter it d i es.size ep)(r:sU s.heap d es ep)(hx:es[i]?=some x)
  (q:∀ h',h'.IsKeyIter it d (i+1) es.size ep->Heap.SameBut it s.heap h'->Q (some x.key) { s with heap:=h' }):wpAny (model prog w) A (pyNext (.ref it)) Q E s:=by
 obtain⟨io,i1,i2,i3⟩:=id hi;obtain⟨o,e1,e2,e3⟩:=id r;have lt:i<es.size:=by
  rcases Zc3 i es.size with z|z
  ·exact z
  ·rw[Zb1 z] at hx;cases hx
 have ex:es[i]=x:=by rw[ZaL lt] at hx;exact Zaf hx
 unfold pyNext;refine Zaa (wpAny_attempt (wpAny_callSpecial?_slot (name:=Str.ofString "__next__") hi.typeIs Zba (wpAny_call_entry Zba hi.typeIs Zck ?_ (Zcg _))));refine Zaa (Zah (Zaa (Zaa ?_)))
 first
  |refine Zaa (wpAny_typeNameOfWhole_keyiter hi.typeIs (Zah ?_))
  |refine Zaa (wpAny_typeNameOf_keyiter hi.typeIs (Zah ?_))
 refine Zaa (wpAny_fieldsOf i1 i3 ?_);simp only[show Builtin.Dict_items.ownsTuple "dict_keyiterator"=false by decide,ZbB,Zbb]
 show wpAny _ _ (if(Value.ref d==.none)=true then _ else _) _ _ _
 rw[Zal (show ¬(Value.ref d==.none)=true from Zbe)];refine Zaa (Zah (Zaa (wpAny_dictEntries e1 e3 ?_)));rw[Zal (by simp)]
 refine Zaa (Zah (Zaa (wpAny_dictEpoch e1 e3 ?_)));rw[Zal (by simp)]
 refine Zah ?_;simp only[show ¬((i:Int)<0) by lia,Zbb,ZaD,ZaL lt]
 refine Zaa ?_
 first
  |refine Zaa (wpAny_typeNameOfWhole_keyiter hi.typeIs (Zah ?_))
  |refine Zaa (wpAny_typeNameOf_keyiter hi.typeIs (Zah ?_))
 refine Zaa (wpAny_isOneOf_keyiter hi.typeIs ?_);show wpAny _ _ (setField (.ref it) 1 (rawInt ((i:Int)+1))>>=_) _ _ _
 refine Zaa (wpAny_setField i1 i3 (by simp) ?_)
 have next:(s.heap.update it (Obj.mapFields (·.setIfInBounds 1 (rawInt ((i:Int)+1))))).IsKeyIter it d (i+1) es.size ep:=
  ⟨_,Heap.get?_update_self _ i1 (Obj.isFreed_of_fields (Obj.data_mapFields i3 _)),(Obj.cls_mapFields ..).trans i2,by rw[Obj.data_mapFields i3];simp[rawInt]⟩
 refine Zaa (wpAny_holding (Zaa (wpAny_isOneOf_keyiter (s:={ s with heap:=s.heap.update it (Obj.mapFields (·.setIfInBounds 1 (rawInt ((i:Int)+1)))) }) next.typeIs ?_)));show wpAny _ _ (pure es[i].key) _ _ _
 rw[ex];exact Zah (Zah ⟨_,rfl,Zah (q _ next (ZbK ..))⟩)
theorem Vc{Q:Option Value->Shared->Prop}(hh:A.handled=none)(hi:s.heap.IsKeyIter it d es.size es.size ep)(r:sU s.heap d es ep)
  (q:∀ h',Heap.ExtBut it s.heap h'->Q none { s with heap:=h' }):wpAny (model prog w) A (pyNext (.ref it)) Q E s:=by
 obtain⟨io,i1,i2,i3⟩:=id hi;obtain⟨o,e1,e2,e3⟩:=id r;unfold pyNext;refine Zaa (wpAny_attempt (wpAny_callSpecial?_slot (name:=Str.ofString "__next__") hi.typeIs Zba (wpAny_call_entry Zba hi.typeIs Zck ?_ (Zcg _))));refine Zaa (Zah (Zaa (Zaa ?_)))
 first
  |refine Zaa (wpAny_typeNameOfWhole_keyiter hi.typeIs (Zah ?_))
  |refine Zaa (wpAny_typeNameOf_keyiter hi.typeIs (Zah ?_))
 refine Zaa (wpAny_fieldsOf i1 i3 ?_);simp only[show Builtin.Dict_items.ownsTuple "dict_keyiterator"=false by decide,ZbB,Zbb]
 show wpAny _ _ (if(Value.ref d==.none)=true then _ else _) _ _ _
 rw[Zal (show ¬(Value.ref d==.none)=true from Zbe)];refine Zaa (Zah (Zaa (wpAny_dictEntries e1 e3 ?_)));rw[Zal (by simp)]
 refine Zaa (Zah (Zaa (wpAny_dictEpoch e1 e3 ?_)));rw[Zal (by simp)]
 refine Zah ?_;simp only[show ¬((es.size:Int)<0) by omega,Zbb,ZaD,Zb1 (Zan _)]
 refine Zaa ?_
 first
  |refine Zaa (wpAny_typeNameOfWhole_keyiter hi.typeIs (Zah ?_))
  |refine Zaa (wpAny_typeNameOf_keyiter hi.typeIs (Zah ?_))
 show wpAny _ _ (setField (.ref it) 0 .none>>=_) _ _ _
 refine Zaa (wpAny_setField i1 i3 (by simp) ?_)
 show wpAny _ _ (newExc (.type "StopIteration") []>>=_) _ _ _
 refine Zaa ?_;simp only[newExc,newTuple];refine Zaa (Za0 ?_ (by size_fits))
 refine Zaa (m:=firstArgMember _ _) (wpAny_of_eq (a:=.none) (by first|rfl|(simp only[firstArgMember];rfl)) (Za0 ?_ (by size_fits)))
 simp only[raiseNew];refine Zaa (wpAny_handled ?_);rw[show A.in1.handled=none from hh];refine Zaa (Zah (wpAny_throw ?_));refine Zaa (wpAny_isInstance (T:="StopIteration") (b:=true) ⟨_,Zar _ rfl,rfl⟩ isSubtype_stop ?_);exact Zah (q _ (((ZbK ..).extBut.push _).push _))
theorem xP(hh:A.handled=none)(I d:Addr)(ne:d≠I)(es:Array DictEntry)(ep:Nat) :
  Walks prog w A I [I,d] [I] es.size (λi v=>∃ x,es[i]?=some x/\v=x.key) (λi h=>h.IsKeyIter I d i es.size ep/\sU h d es ep) where
 sub:=λb hb=>by simp at hb;simp[hb]
 frame:=λ_ _ _ z k=>⟨z.1.at λo e=>k I (by simp) o e,z.2.step λo e=>k d (by simp) o e⟩
 item:=λi s Q E lt z q=>Sg z.1 z.2 (ZaL lt) λh' a b=>q _ h' s.toks ⟨_,ZaL lt,rfl⟩ ⟨a,z.2.step λo e=>b.extBut d o ne e⟩ λc o hc e=>b.extBut c o (λy=>hc (by simp[y])) e
 done:=λs Q E z q=>Vc hh z.1 z.2 λh' b=>q h' s.toks λc o hc e=>b c o (λy=>hc (by simp[y])) e
 self:=λ_ _ _ _ z q=>wpAny_pyIter_keyiter z.1 q
theorem Vd(nd:(d==sysModules)=false):PySem.W.KdlSrc prog w "dict" d d es.size (λi v=>∃ x,es[i]?=some x/\v=x.key) (λh=>sU h d es ep) where
 type:=λ_ z=>z.ty
 there:=λ_ z=>⟨z.small,z.small⟩
 keep:=λ_ _ z k=>z.step λo e=>k d (.inl rfl) o e
 notList:=by decide
 notTuple:=by decide
 hint:=λ_ _ _ _ z q=>PySem.W.kdl_hint_dict z.ty q
 iter:=λ_ _ hh z=>⟨_,_,(λ_ _ q=>Ja nd z q),xP hh _ d (ZaE z.small) es ep,⟨⟨_,Zar _ rfl,rfl,rfl⟩,z.step λ_ e=>Zaj _ e⟩⟩
end
open PySem PySem.W PyProof.Rows
def dZ{α:Type}(lt:Nat->Nat->Bool):KasT α->α
 |.ret a=>a
 |.ask i j k=>dZ lt (k (lt i j))
def kIn{α:Type}(n:Nat)(P:α->Prop):KasT α->Prop
 |.ret a=>P a
 |.ask i j k=>i<n/\j<n/\∀ b,kIn n P (k b)
theorem kIn.then{α β:Type}{n:Nat}{P:α->Prop}{P':β->Prop}{f:α->KasT β}:∀ {t:KasT α},kIn n P t->(∀ a,P a->kIn n P' (f a))->kIn n P' (t.bind f)
 |.ret a,h,hf=>hf a h
 |.ask i j k,h,hf=>⟨h.1,h.2.1,λb=>kIn.then (h.2.2 b) hf⟩
theorem kIn.val{α:Type}{n:Nat}{P:α->Prop}{lt:Nat->Nat->Bool}:∀ {t:KasT α},kIn n P t->P (dZ lt t)
 |.ret _,h=>h
 |.ask i j k,h=>kIn.val (t:=k (lt i j)) (h.2.2 (lt i j))
theorem kIn.run{α:Type}{n:Nat}{P:α->Prop}{lt:Nat->Nat->Bool}{cmp:Nat->Nat->(Bool->Shared->Prop)->Shared->Prop}{Q:α->Shared->Prop}{s:Shared}(hc:∀ i j C,i<n->j<n->C (lt i j) s->cmp i j C s):∀ {t:KasT α},kIn n P t->Q (dZ lt t) s->t.kasWp cmp Q s
 |.ret _,_,q=>q
 |.ask i j k,h,q=>hc i j _ h.1 h.2.1 (kIn.run hc (h.2.2 (lt i j)) q)
def Bd(n:Nat)(p:Array Nat):Prop:=∀ x∈p.toList,x<n
section
variable{n:Nat}{p:Array Nat}
theorem Bd.get(h:Bd n p)(n0:0<n)(i:Nat):p.getD i 0<n:=by
 by_cases hi:i<p.size
 ·have e:p.getD i 0=p[i]:=by simp[Array.getD,hi]
  rw[e];exact h _ (Array.getElem_mem_toList hi)
 ·have e:p.getD i 0=0:=by simp[Array.getD,hi]
  rw[e];exact n0
theorem Bd.perm{q:Array Nat}(h:Bd n p)(e:q.Perm p):Bd n q:=λx hx=>h x ((ZcK.mp e).mem_iff.mp hx)
theorem Bd.rev(h:Bd n p)(i j:Nat):Bd n (kas_rev p i j):=h.perm (mirror_perm _ _ _ _)
theorem Le(n0:0<n)(h:Bd n p):∀ f m,kIn n (λ_=>True) (kas_asc p f m)
 |0,_=>trivial
 |f+1,m=>⟨h.get n0 _,h.get n0 _,λb=>by
  cases b with
  |true=>exact trivial
  |false=>exact Le n0 h f (m+1)⟩
theorem zj(n0:0<n):∀ f (p:Array Nat) m q,Bd n p->kIn n (λr=>Bd n r.1) (kas_desc f p m q)
 |0,_,_,_,h=>h
 |f+1,p,m,q,h=>⟨h.get n0 _,h.get n0 _,λb=>by
  cases b with
  |true=>
   show kIn n _ (if q>0 then _ else _)
   split
   ·exact zj n0 f _ _ _ (h.rev _ _)
   ·exact zj n0 f _ _ _ h
  |false=>exact⟨h.get n0 _,h.get n0 _,λc=>by
   cases c with
   |true=>exact h
   |false=>exact zj n0 f _ _ _ h⟩⟩
theorem Jb(n0:0<n)(h:Bd n p)(a b:Nat):kIn n (λr=>Bd n r.2) (kas_tail3 a b p):=(Le n0 (h.rev 0 a) _ _).then λ_ _=>h.rev 0 a
theorem yD(n0:0<n)(h:Bd n p)(a b:Nat):kIn n (λr=>Bd n r.2) (kas_descPart a b p):=(zj n0 _ _ _ _ h).then λr hr=>by
 split
 ·exact Jb n0 (Bd.rev hr _ _) _ _
 ·exact Jb n0 hr _ _
theorem Sh(n0:0<n)(h:Bd n p)(b:Nat):kIn n (λr=>Bd n r.2) (kas_count b p):=(Le n0 h _ _).then λm _=>by
 split
 ·exact h
 ·split
  ·exact⟨h.get n0 _,h.get n0 _,λc=>by
    cases c with
    |true=>exact h
    |false=>exact yD n0 (h.rev 0 m) _ _⟩
  ·exact yD n0 h _ _
theorem Ay(n0:0<n)(h:Bd n p)(k:Nat):∀ f l r,kIn n (λ_=>True) (kas_place p k f l r)
 |0,_,_=>trivial
 |f+1,l,r=>by
  show kIn n _ (if l>=r then _ else _)
  split
  ·exact trivial
  ·exact⟨h.get n0 _,h.get n0 _,λc=>by
    cases c with
    |true=>exact Ay n0 h k f _ _
    |false=>exact Ay n0 h k f _ _⟩
theorem Sq(n0:0<n):∀ f (p:Array Nat) k,Bd n p->kIn n (Bd n) (kas_bin f p k)
 |0,_,_,h=>h
 |f+1,p,k,h=>(Ay n0 h k _ _ _).then λl _=>Sq n0 f _ _ (h.perm (bubble_perm _ _ _))
theorem Ve(n0:0<n):kIn n (Bd n) (kas_sort n):=(Sh n0 (p:=List.toArray (List.range n)) (λx hx=>by simpa using hx) _).then λr hr=>by
 split
 ·exact Sq n0 _ _ _ hr
 ·exact hr
end
open PySem PySem.Spec PySem.W PyProof PyProof.Rows
def PB(h:Heap)(v:Value)(p:Str×Int):Prop:=∃ a o t u n,v=.ref a/\h.get? a=some o/\o.cls=.type "tuple"/\o.data=.seq #[.str p.1 t,.int p.2 u] n
def ltP(p q:Str×Int):Bool:=if p.1=q.1 then(if p.2=q.2 then false else decide (p.2<q.2)) else decide (p.1.cps.toList<q.1.cps.toList)
section
variable{prog:Program}{w:World}{A:Around}{E:Value->Shared->Prop}{s:Shared}{u v:Value}{p q:Str×Int}
theorem PB.same{h h':Heap}(x:PB h v p)(k:∀ a o,v=.ref a->h.get? a=some o->h'.get? a=some o):PB h' v p:=by
 obtain⟨a,o,t,t2,n,rfl,e1,e2,e3⟩:=x;exact⟨a,o,t,t2,n,rfl,k a o rfl e1,e2,e3⟩
theorem PB.lt(hp:PB s.heap v p)(hq:PB s.heap u q){Q:Bool->Shared->Prop}(h:Q (ltP p q) s):wpAny (model prog w) A (keyLt' (tuples' true) v u) Q E s:=by
 obtain⟨a,o,t,t2,n,rfl,e1,e2,e3⟩:=hp;obtain⟨b,o',r,r2,n',rfl,f1,f2,f3⟩:=hq;refine kat_lt e1 e3 f1 f3 (kat_cons (wpAny_eqBool_str ?_));by_cases c:p.1=q.1
 ·rw[ZaF c];refine kat_yes (kat_cons (wpAny_eqBool_int ?_));by_cases d:p.2=q.2
  ·rw[beq_iff_eq.mpr d];refine kat_yes (kat_nil ?_);rw[show ltP p q=false by unfold ltP;rw[Zam c,Zam d]] at h
   exact h
  ·rw[beq_eq_false_iff_ne.mpr d];refine kat_no ?_;show wpAny _ _ (oneLt' false _ _) _ _ _
   rw[show ltP p q=decide (p.2<q.2) by unfold ltP;rw[Zam c,Zal d]] at h
   exact kat_one _ _ (lt_int h)
 ·rw[ZaH c];refine kat_no ?_;show wpAny _ _ (oneLt' true _ _) _ _ _
  rw[show ltP p q=decide (p.1.cps.toList<q.1.cps.toList) by unfold ltP;rw[Zal c]] at h
  exact oneLt_str h
end
open PySem PySem.Spec PySem.W PyProof PyProof.Rows
theorem KT.at{H:Hp}{kvs:List (List Key×V)}{xs:List (List Key×Addr×Value)}(r:KT H kvs xs):xs.length=kvs.length/\∀ (i:Nat) k,(kvs.map (·.1))[i]?=some k->∃ b u,xs[i]?=some (k,b,u)/\H b=some (.tup (k.map kV)):=by
 induction r with
 |nil=>exact⟨rfl,λi k h=>by simp at h⟩
 |@cons p q ps qs hq t ih=>
  refine⟨by simp[ih.1],λi k h=>?_⟩
  cases i with
  |zero=>
   have h:p.1=k:=by simpa using h
   subst h;obtain⟨q1,b,u⟩:=q;exact⟨b,u,by rw[hq.1];rfl,hq.2.1⟩
  |succ i=>exact ih.2 i k (by simpa using h)
theorem Az{α:Type}{f:α->V}{g:α->Value}:∀ {l:List α},(∀ i∈l,RelV (f i) (g i))->Vals (l.map f) (l.map g)
 |[],_=>.nil
 |i::l,h=>.cons (h i Zax) (Az λj hj=>h j (Zat _ hj))
namespace MP
section
theorem Up.tups{F H:Hp}{l:Addr}{o:HO}(s:aU F H)(hl:H l=none):Up F H (vL F H λ_=>False) (upd H l o):=by
 refine⟨iY s,dU hl,λb o q=>?_,(qF s).trans (dU hl)⟩;by_cases hb:False\/∃ ys,H b=some (.tup ys)
 ·rw[iB hb] at q;obtain⟨ys,z⟩:=hb.resolve_left id;rw[z] at q;cases q;exact .inr (.inr ⟨ys,rfl⟩)
 ·rw[gq hb] at q;exact .inl q
end
end MP
end L2
namespace L2.MP
open PySem PySem.Spec PyProof.Rows
section
theorem Jc{α:Type}{l:List α}{i:Nat}{x:α}(h:l[i]?=some x):l.set i x=l:=by
 apply ZbG
 intro j;rw[ZbF];split
 ·rename_i e;subst e;rw[Zam (cF h),h]
 ·rfl
theorem Ss{α:Type}(l:List α)(i:Nat)(x y:α):(l.set i x).set i y=l.set i y:=by simp
end
end L2.MP
namespace L2
open PySem PySem.F PySem.Spec PyProof PyProof.Rows
namespace MP
end MP
open PySem PySem.Spec PyProof PyProof.Rows
theorem KT.drop{H:Hp}{kvs:List (List Key×V)}{xs:List (List Key×Addr×Value)}(r:KT H kvs xs)(k:List Key):KT H (Dv kvs k) (xs.filter λx=>decide (x.1≠k)):=by
 unfold KT at r ⊢;unfold Dv;induction r with
 |nil=>exact .nil
 |@cons p q ps qs h t ih=>
  rw[Za8,Za8];by_cases e:p.1=k
  ·have a:¬decide (p.1≠k)=true:=by simp[e]
   have b:¬decide (q.1≠k)=true:=by simp[h.1.symm.trans e]
   rw[Zal a,Zal b];exact ih
  ·have e':¬q.1=k:=λz=>e (h.1.trans z);have a:decide (p.1≠k)=true:=by simp[e]
   have b:decide (q.1≠k)=true:=by simp[e']
   rw[Zam a,Zam b];exact .cons h ih
namespace MP
section
variable{K:Frag}
theorem gH.drop{κ:Type}[DecidableEq κ]{F:Hp}{xs:List (κ×V)}{l:List (κ×PV)}(h:gH K F xs l)(k:κ):gH K F (Dv xs k) (l.filter λe=>decide (e.1≠k)):=by
 unfold Dv;induction h with
 |nil=>exact .nil
 |@cons a v p xs l h t ih=>
  rw[Za8,Za8];by_cases e:a=k
  ·rw[Zal (by simp[e]),Zal (by simp[e])];exact ih
  ·rw[Zam (by simp[e]),Zam (by simp[e])];exact .cons h ih
end
end MP
open PySem PySem.Spec PySem.W PyProof PyProof.Rows
section
theorem Ec:∀ {bs:List Addr}{its:List Value},Vals (bs.map V.ref) its->its=bs.map Value.ref
 |[],its,r=>by cases r;rfl
 |b::bs,its,r=>by
  cases r with
  |cons r1 r2=>
   cases r1;rw[Ec r2];rfl
end
namespace MP
end MP
end L2
namespace L2.MP
open PySem PySem.Spec PyProof.Rows
end L2.MP
namespace L2
open PySem PySem.Spec PyProof PyProof.Rows
namespace MP
def PJ(K:Frag)(C:Cg)(F:Hp)(D:Ends)(ks:List Nat)(O0:St):Out->Prop
 |.nx Z=>∀ F' H' O,aU F F'->RE K C.toCf F' H' O Z->(∀ k∈ks,O[k]?=O0[k]?)->D.nx O H'
 |.bk Z=>∀ F' H' O,aU F F'->RE K C.toCf F' H' O Z->(∀ k∈ks,O[k]?=O0[k]?)->D.bk O H'
 |.ct Z=>∀ F' H' O,aU F F'->RE K C.toCf F' H' O Z->(∀ k∈ks,O[k]?=O0[k]?)->D.ct O H'
 |o=>PO' K C F D o
section
variable{K:Frag}{C:Cg}{ks:List Nat}{F:Hp}{O O0:St}{Z:Rho}{D:Ends}{o:Out}
theorem PJ.up{F1:Hp}(h:PJ K C F D ks O0 o)(s:aU F F1):PJ K C F1 D ks O0 o:=by
 cases o with
 |nx Z=>exact λF' H' O a=>h F' H' O (s.trans a)
 |bk Z=>exact λF' H' O a=>h F' H' O (s.trans a)
 |ct Z=>exact λF' H' O a=>h F' H' O (s.trans a)
 |rt p=>exact λv F' H' a=>h v F' H' (s.trans a)
 |ro p=>exact λv F' H' a=>h v F' H' (s.trans a)
 |rd p=>exact λv F' H' S a=>h v F' H' S (s.trans a)
 |ex z=>exact PX.up h s
theorem PJ.of{σ1:St}(h:PJ K C F D ks O0 o)(k:∀ i∈ks,σ1[i]?=O0[i]?):PJ K C F D ks σ1 o:=by
 cases o with
 |nx Z=>exact λF' H' O a R q=>h F' H' O a R λi hi=>(q i hi).trans (k i hi)
 |bk Z=>exact λF' H' O a R q=>h F' H' O a R λi hi=>(q i hi).trans (k i hi)
 |ct Z=>exact λF' H' O a R q=>h F' H' O a R λi hi=>(q i hi).trans (k i hi)
 |rt p=>exact h
 |ro p=>exact h
 |rd p=>exact h
 |ex z=>exact h
end
end MP
end L2
namespace L2.MP
open PySem PySem.Spec PyProof.Rows
section
variable{κ:Type}[DecidableEq κ]
def cJ:List (κ×PV)->κ->PV->List (κ×PV)
 |[],k,p=>[(k,p)]
 |(a,q)::l,k,p=>if a=k then(a,p)::l else(a,q)::cJ l k p
theorem rN{k:κ}{q:PV}:∀ {xs:List (κ×V)}{l:List (κ×PV)},xs.map (·.1)=l.map (·.1)->cI l k=some q->∃ (j:Nat) (v:V),l[j]?=some (k,q)/\xs[j]?=some (k,v)/\jE xs k=some v/\∀ p,cJ l k p=l.set j (k,p)
 |[],[],_,e=>by cases e
 |[],_::_,h,_=>by simp at h
 |_::_,[],h,_=>by simp at h
 |(a,v)::xs,(b,r)::l,h,e=>by
  simp only[Zaq,ZbJ] at h;obtain⟨h1,h2⟩:=h;have h1:a=b:=h1;subst h1;by_cases hk:a=k
  ·subst hk;unfold cI at e;rw[Zam rfl] at e;cases e;exact⟨0,v,rfl,rfl,qm rfl,λp=>by unfold cJ;rw[Zam rfl];rfl⟩
  ·unfold cI at e;rw[Zal hk] at e;obtain⟨j,w,e1,e2,e3,e4⟩:=rN h2 e;exact⟨j+1,w,by simpa using e1,by simpa using e2,by rw[lW hk];exact e3,λp=>by rw[cJ,Zal hk,e4];rfl⟩
theorem Ba{k:κ}:∀ {xs:List (κ×V)}{l:List (κ×PV)},xs.map (·.1)=l.map (·.1)->cI l k=none->jE xs k=none/\∀ p,cJ l k p=l++[(k,p)]
 |[],[],_,_=>⟨rfl,λ_=>rfl⟩
 |[],_::_,h,_=>by simp at h
 |_::_,[],h,_=>by simp at h
 |(a,v)::xs,(b,r)::l,h,e=>by
  simp only[Zaq,ZbJ] at h;obtain⟨h1,h2⟩:=h;have h1:a=b:=h1;subst h1;by_cases hk:a=k
  ·unfold cI at e;rw[Zam hk] at e;cases e
  ·unfold cI at e;rw[Zal hk] at e;obtain⟨e1,e2⟩:=Ba h2 e;exact⟨by rw[lW hk];exact e1,λp=>by rw[cJ,Zal hk,e2];rfl⟩
end
def Wn(fe:Fn PV):Fn PV:=λZ=>bnd (fe Z) λp=>if p.lM=true then some (.ok p) else none
theorem XM{K:Frag}{C:Cg}{te:TE}{fe:Fn PV}(h:MO K C te fe):MD K C te (Wn fe):=by
 intro F H O Z Q r R e P;rcases bM e with⟨z,e1,rfl⟩|⟨p,e1,hk⟩
 ·exact h F H O Z Q _ R e1 P
 ·split at hk
  ·rename_i hp;cases hk;refine h F H O Z Q _ R e1 λa F' H' u n1 n2 w=>P _ F' H' (λb=>b=a) u (w.dp hp) ?_;rintro b rfl;obtain⟨ob,eo⟩:=w.ne;exact⟨n1,n2,ob,eo,λys q=>by subst q;exact w.yu eo⟩
  ·cases hk
section
variable{p:PV}
theorem Su{κ:Type}{l:List (κ×PV)}{j:Nat}{k:κ}{q p:PV}(h:l[j]?=some (k,q)):(l.set j (k,p)).map (·.1)=l.map (·.1):=by
 rw[List.map_set];exact Jc (by rw[Zac,h];rfl)
end
end L2.MP
namespace L2
open PySem PySem.Spec PyProof PyProof.Rows
section
variable{K:Type}[DecidableEq K]{prog:Program}{w:World}{knd:HeapKind prog w K}{A:Around}{E:Value->Shared->Prop}{s:Shared}{d a:Addr}{k:K}{xs:List (K×Addr×Value)}
theorem Jd{dflt:Value}{Q:Value->Shared->Prop}(hu:knd.room A)(hkey:knd.is s.heap k a)(hm:s.heap.DictOfH knd d xs)(hsz:xs.length<=sizeLine)
  (h1:∀ p,atKey xs k=some p->Q p.2 { s with toks:=s.toks+knd.draws k })
  (h2:atKey xs k=none->∀ h',h'.DictOfH knd d (storedH xs k a dflt)->Heap.SameBut d s.heap h'->Q dflt { s with heap:=h',toks:=s.toks+knd.draws k }) :
  wpAny (model prog w) A (dictSetDefault d (.ref a) dflt) Q E s:=by
 obtain⟨o,es,ep,ho,hc,hd,he,his,hn⟩:=hm;unfold dictSetDefault
 try with_reducible refine wpAny_holding ?_
 refine Zaa (knd.pyHash hu hkey ?_);refine Zaa (wpAny_dictFind_heap (s:={ s with toks:=s.toks+knd.draws k }) hu hkey ho hd he his hn ?_ ?_)
 ·intro hno;have hnot:k ∉ xs.map (·.1):=not_mem_keys_of_get hno;refine Zaa (wpAny_rule (Zaa (wpAny_updateDictKeys (hz:=by have e:=size_of_entries he;lia) (s:={ s with toks:=s.toks+knd.draws k }) ho hd (Zah (h2 (atKey_none_of_get hno) _ ⟨_,_,ep+1,Heap.get?_update_self _ ho (Obj.isFreed_of_dict (Obj.data_mapDictKeys hd _)),
   hc.mapDictKeys _,Obj.data_mapDictKeys hd _,?_,?_,?_⟩ (ZbK ..))))))
  ·rw[storedH_new (atKey_none_of_get hno)];simp[he,entryOfKey]
  ·rw[storedH_new (atKey_none_of_get hno)];intro x hx;rcases ZaK.mp hx with hx|hx
   ·exact knd.keeps (his x hx) ho hd (ZbK ..)
   ·simp only[Za2] at hx;subst hx;exact knd.keeps hkey ho hd (ZbK ..)
  ·rw[storedH_new (atKey_none_of_get hno)];rw[ZaW,Zbi];refine⟨hn,by simp,?_⟩
   intro x hx y hy;simp only[Zaq,Zcu,Za2] at hy;subst hy;exact λe=>hnot (e▸hx)
 ·intro j p hj;refine Zaa (wpAny_dictEntries (s:={ s with toks:=s.toks+knd.draws k }) ho hd ?_);rw[entry_at he j,hj];exact Zaa (wpAny_rule (Zah (h1 p (atKey_of_get hn hj))))
theorem pG(hd:(d==sysModules)=false)(dflt:Value):MeetsIn prog w (Builtin.«dict.setdefault» ⟨[.ref d,.ref a,dflt],[]⟩) (λA R s=>knd.room A.in1/\∃ k xs,knd.is s.heap k a/\s.heap.DictOfH knd d xs/\xs.length<=sizeLine /\
   (∀ p,atKey xs k=some p->R (.ok (.ret p.2)) { s with toks:=s.toks+knd.draws k }) /\
   (atKey xs k=none->∀ h',h'.DictOfH knd d (storedH xs k a dflt)->Heap.SameBut d s.heap h'->R (.ok (.ret dflt)) { s with heap:=h',toks:=s.toks+knd.draws k })):=
 .of_wp λA R s ⟨hu,k,xs,hkey,hm,hsz,h1,h2⟩=>by
  unfold Builtin.«dict.setdefault»;refine Zaa ?_;unfold Builtin.Dict.keyAndDefault;refine Zaa (wpAny_notOrdered_dict hm.typeIs ?_);show wpAny _ _ (pure (d,Value.ref a,some dflt)) _ _ s
  refine Zah ?_;show wpAny _ _ (if(d==sysModules)=true then _ else(dictSetDefault d (.ref a) dflt>>=_)) _ _ s
  rw[Zal (by rw[hd];exact Zbe)]
  exact Zaa (Jd hu hkey hm hsz (λp hp=>Zah ⟨p.2,rfl,h1 p hp⟩) λhn h' hm' hs'=>Zah ⟨dflt,rfl,h2 hn h' hm' hs'⟩)
end
section
variable{X:Cx}{pins:List (Addr×Obj)}{O:St}{H:Hp}{s:Shared}{a b:Addr}{kvs:List (List Key×V)}{k:List Key}{z:V}{r:Value}{A:Around}{E:Value->Shared->Prop}
theorem PK{Q:Value->Shared->Prop}(hu:A.units+1<cLine)(I:Inv X pins O H s)(e:H a=some (.dT kvs))(eb:H b=some (.tup (k.map kV)))(hl:kvs.length<sizeLine)(rz:RelV z r)
  (h1:∀ v,jE kvs k=some v->∀ w' s',Inv X pins O H s'->RelV v w'->Q w' s')
  (h2:jE kvs k=none->∀ s',Inv X pins O (upd H a (.dT (putK kvs k z))) s'->Q r s'):wpAny (model X.prog X.w) A (call (.builtin "dict.setdefault") [.ref a,.ref b,r]) Q E s:=by
 obtain⟨zz,hd,xs,rel,dd⟩:=Q0 I.hok e;have hz:xs.length<=sizeLine:=by rw[<-ZcD rel];exact zz
 have hl2:(putK kvs k z).length<=sizeLine:=by have:=jT kvs k z;lia
 have rv:=rel.val k;refine call_meetsIn ZcE dd.typeIs PySem.F.entry_dict_setdefault (PySem.F.args_dict_setdefault_3 _ _ _) (pG (knd:=tupleKind (bN X.prog X.w)) hd r)
  ⟨tupleKind_room_in1 hu,k,xs,o8 I.hok eb,dd,hz,λp hp=>?_,λhn h' dd' hs=>?_⟩
 ·rw[hp] at rv;cases e2:jE kvs k with
  |none=>rw[e2] at rv;exact rv.elim
  |some v'=>rw[e2] at rv;exact h1 v' e2 p.2 _ (I.tok _) rv
 ·rw[hn] at rv;have hn':jE kvs k=none:=by
   cases e2:jE kvs k with
   |none=>rfl
   |some v'=>rw[e2] at rv;exact rv.elim
  obtain⟨q,es,ep,hq,g2,g3,g4,_,g5⟩:=dd';refine h2 hn' _ (vp I (by rw[e];exact True.intro) hs ⟨q,hq⟩ ⟨hl2,hd,_,(rel.put k eb rz).keeps λc ys ec=>?_,q,es,ep,hq,g2,g3,g4,g5⟩)
  rw[aJ (Hn ec e (λz=>nomatch z))];exact ec
end
def Je(td ty tz:TE):TE:=λO H Q=>td O H λx H1=>∃ a,x=.ref a/\IsD H1 a/\ty O H1 λy H2=>tz O H2 λz H3=>∃ kvs k b,H3 a=some (.dT kvs)/\y=.ref b/\H3 b=some (.tup (k.map kV))/\kvs.length<sizeLine /\
 (∀ v,jE kvs k=some v->Q v H3)/\(jE kvs k=none->Q z (upd H3 a (.dT (putK kvs k z))))
section
variable{X:Cx}{o e f:Expr}{apos cpos:Pos}{td ty tz:TE}
theorem Lf(hu:X.A.units+1<cLine)(ho:PE X o td)(he:PE X e ty)(hf:PE X f tz)(m:M2 X o "setdefault" apos e f cpos):PE X (.Call (.Attribute o "setdefault" apos) [e,f] [] cpos) (Je td ty tz):=by
 intro pins s O H Q I h;refine wpAny_Call_method m.base m.few m.line ZbD ZcE PySem.F.type_dict_setdefault (thn (ho pins s O H _ I h) ?_);rintro u s1 ⟨x,H1,I1,rx,a,ex,d,q1⟩;subst ex;obtain rfl:u=Value.ref a:=rx;obtain⟨t1,t2,_⟩:=zN I1 d;refine⟨t1,t2,?_⟩;rw[m.trees];refine ZbZ rfl (Zb9 (ZbM (thn (he pins s1 O H1 _ I1 q1) λiv s2 ⟨y,H2,I2,ry,q2⟩=>
  ZbM (thn (hf pins s2 O H2 _ I2 q2) λfv s3 ⟨z,H3,I3,rz,kvs,k,b,ea,ey,eb,hl,c1,c2⟩=>Zct ?_))))
 subst ey;obtain rfl:iv=Value.ref b:=ry;exact PK hu I3 ea eb hl rz (λv hv w' s' I' r'=>⟨v,H3,I',r',c1 v hv⟩) λhn s' I'=>⟨z,_,I',rz,c2 hn⟩
end
namespace MP
section
variable{K:Frag}{C:Cg}{te tb:TE}{F F1 F2 H H1 H2:Hp}{O:St}{Z:Rho}{D:Ends}{S:Addr->Prop}{v:V}{p:PV}
theorem Dp.Gh{l:List (List Key×PV)}(d:Dp K F H S v (.dt l)):∃ (T:Nat->Addr->Prop) (a:Addr) (xs:List (List Key×V)),v=.ref a/\H a=some (.dT xs)/\S a/\(∀ j b,T j b->S b/\b≠a)/\(∀ i j b,T i b->T j b->i=j)/\xs.map (·.1)=l.map (·.1)/\∀ (j:Nat) x p,xs[j]?=some x->l[j]?=some p->Dp K F H (T j) x.2 p.2:=by
 cases d with
 |fr r st=>cases st
 |dt h hp hs dj hl hr=>exact⟨_,_,_,rfl,h,hp,hs,dj,hl,hr⟩
def wj(i:Nat)(fk fe:Fn PV):Sn:=λZ=>match qG i Z with
 |some (.dt l)=>if l.length<sizeLine then fZ (fk Z) λkp=>match kp with
  |.tup ks=>match gm ks with
   |some k=>match(cI l k).getD (.lst []) with
    |.lst row=>fZ (fe (Z.set i (some (.dp (.dt (cJ l k (.lst row))))))) λq=>if q.still=true/\row.length<sizeLine then some (.nx (Z.set i (some (.dp (.dt (cJ l k (.lst (row++[q]))))))))
     else none
    |_=>none
   |none=>none
  |_=>none else none
 |_=>none
theorem Ni{κ:Type}[DecidableEq κ]{k:κ}{p q:PV}:∀ {l:List (κ×PV)},cJ (cJ l k p) k q=cJ l k q
 |[]=>by simp[cJ]
 |(a,r)::l=>by
  by_cases h:a=k
  ·simp[cJ,h]
  ·simp[cJ,h,Ni (l:=l)]
theorem Sv{κ:Type}[DecidableEq κ]{k:κ}{p:PV}:∀ {l:List (κ×PV)},cI (cJ l k p) k=some p
 |[]=>by simp[cJ,cI]
 |(a,r)::l=>by
  by_cases h:a=k
  ·simp[cJ,cI,h]
  ·simp[cJ,cI,h,Sv (l:=l)]
theorem Jf{κ:Type}[DecidableEq κ]{k:κ}{p:PV}:∀ {l:List (κ×PV)},cI l k=some p->cJ l k p=l
 |[],e=>by cases e
 |(a,r)::l,e=>by
  unfold cI at e;by_cases h:a=k
  ·rw[Zam h] at e;cases e;simp[cJ,h]
  ·rw[Zal h] at e;simp[cJ,h,Jf e]
theorem Ed{i:Nat}{l:List (List Key×PV)}{k:List Key}{row:List PV}{q:PV}{P:Nat->Addr->Prop}{a b:Addr}{xs:List (List Key×V)}{w:V}(R:RE K C.toCf F H O Z)(d:RD K C.toCf F H O Z P)(ei:Z[i]?=some (some (.dp (.dt l))))(es:O[i]?=some (some (.ref a)))(ha:H a=some (.dT xs))(hv:jE xs k=some (.ref b))(hp:cI l k=some (.lst row))(rep:Rep K F w q)(st:q.still=true) :
  ∃ ys,H b=some (.lst ys)/\ys.length=row.length/\RE K C.toCf F (upd H b (.lst (ys++[w]))) O (Z.set i (some (.dp (.dt (cJ l k (.lst (row++[q]))))))):=by
 obtain⟨v,e1,dp⟩:=d.dp i _ ei;rw[es] at e1;cases e1;obtain⟨T,a',xs',ea,ha',Pa,hT,dj,hkeys,hch⟩:=dp.Gh;cases ea;rw[ha] at ha';cases ha';obtain⟨j,w',lj,xj,hvw,hput⟩:=rN hkeys hp;rw[hv] at hvw;cases hvw;obtain⟨T2,b',ys,eb,hb,sb,ht2,ds2⟩:=(hch j _ _ xj lj).cC;have eb:V.ref b=.ref b':=eb;cases eb;have nab:a≠b:=λz=>(hT j b sb).2 z.symm;have nt:∀ c zs,H c=some (.tup zs)->upd H b (.lst (ys++[w])) c=some (.tup zs):=λc zs z=>by
  rw[aJ (λy=>by subst y;rw[hb] at z;cases z)];exact z
 refine⟨ys,hb,ds2.1,?_⟩;refine R.Ao d ei es (hT j b sb).1 (λzs z=>by cases z) (S':=P i) (.dt (S:=T) (xs:=xs) (by rw[aJ nab];exact ha) Pa hT dj (by rw[hput,Su lj];exact hkeys) λm x r h1 h2=>?_) λc z=>.inl z
 rw[hput] at h2;rcases get_set h2 with⟨f1,f2⟩|⟨f1,f2⟩
 ·subst f1;subst f2;rw[xj] at h1;cases h1;exact Dp.snoc hb sb ht2 ds2 rep st
 ·exact(hch m x r h1 f2).up (aU.refl _) (λc o z y=>by rw[aJ (λe=>by subst e;exact f1 (dj j m c sb z))];exact y) nt
theorem PL{i:Nat}{fk fe:Fn PV}(hk:MJ K C (aF K) tb fk)(he:MJ K C (aF K) te fe) :
  MS K C (zB (tBM K "list" u5 (Je (lJ i) tb (W9 xx)) (kO te xx))) (wj i fk fe):=by
 intro F H O Z D o R e Pq;unfold wj at e;split at e
 case h_2=>cases e
 rename_i l hl;split at e
 case isFalse=>cases e
 rename_i hlen;obtain⟨P0,d0⟩:=R.dd;obtain⟨v0,e0,dp0⟩:=d0.dp i _ (di hl);obtain⟨_,a,xs0,rfl,ha0,_⟩:=dp0.Gh;refine⟨_,e0,a,rfl,.inr ⟨xs0,.inl ha0⟩,?_⟩;rcases cQ e with⟨z,e1,rfl⟩|⟨kp,e1,hk1⟩
 ·exact hk F H O Z _ _ R e1 Pq
 refine hk F H O Z _ _ R e1 λy F1 H1 u ry=>?_;split at hk1
 case h_2=>cases hk1
 rename_i ks;split at hk1
 case h_2=>cases hk1
 rename_i k hkk;split at hk1
 case h_2=>cases hk1
 rename_i row hrow;obtain⟨bk,zs,rfl,hbk,rr⟩:=Rep.vy ry;cases rH hkk rr;refine⟨Za4 _,λn hn=>?_⟩;have u1:Up F1 H1 F1 (upd H1 n (.lst [])):=Up.Cz u.fh hn;have RA:=R.up u;obtain⟨P1,dA⟩:=RA.dd;have R1:=RA.up u1;have d1:=dA.up u1;obtain⟨v1,e1',dp1⟩:=d1.dp i _ (di hl);rw[e0] at e1';cases e1';obtain⟨T,a',xs,ea,ha,Pa,hT,dj,hkeys,hch⟩:=dp1.Gh;cases ea;have lx:xs.length=l.length:=by have:=ZaY List.length hkeys;simpa using this
 have hbk2:=u1.fh _ _ hbk;refine⟨xs,k,bk,ha,rfl,hbk2,by rw[lx];exact hlen,λv hv=>?_,λhv=>?_⟩
 ·cases hvl:cI l k with
  |none=>rw[(Ba hkeys hvl).1] at hv;cases hv
  |some q0=>
   rw[hvl] at hrow;have hrow:q0=.lst row:=hrow;subst hrow;rw[Jf hvl,Jc (di hl)] at hk1;obtain⟨j,w',lj,xj,hvw,_⟩:=rN hkeys hvl;rw[hv] at hvw;cases hvw;obtain⟨T2,b,ys,eb,hb,sb,_,_⟩:=(hch j _ _ xj lj).cC;have eb:v=.ref b:=eb;subst eb;refine⟨tyL hb,?_⟩;rcases cQ hk1 with⟨z,e2,rfl⟩|⟨q,e2,hk2⟩
   ·exact he F1 _ O Z _ _ R1 e2 (PX.up Pq (u.trans u1).ff)
   split at hk2
   case isFalse=>cases hk2
   rename_i hq;cases hk2;refine he F1 _ O Z _ _ R1 e2 λw F2 H2 u2 rep=>?_;obtain⟨ys2,hb2,yl,RR⟩:=Ed (R1.up u2) (d1.up u2) (di hl) e0 (u2.hh _ _ ha) hv hvl rep hq.1;exact⟨b,ys2,w,rfl,rfl,hb2,by rw[yl];exact hq.2,Pq F2 _ O ((u.trans u1).trans u2).ff RR⟩
 ·cases hvl:cI l k with
  |some q0=>
   obtain⟨j,w',_,_,hvw,_⟩:=rN hkeys hvl;rw[hv] at hvw;cases hvw
  |none=>
   rw[hvl] at hrow;have hrow:row=[]:=by
    have:PV.lst []=.lst row:=hrow;cases this;rfl
   subst hrow;have hput:=(Ba hkeys hvl).2;rw[QZ _ hv];have hn2:upd H1 n (.lst []) n=some (.lst []):=aN;have inP:∀ j x,P1 j x->x≠n:=λj x z y=>by
    subst y;obtain⟨_,⟨o,k2,_⟩,_⟩:=dA.own j x z;rw[hn] at k2;cases k2
   have nna:n≠a:=λz=>inP i a Pa z.symm;have il:=cF (di hl);have R3:RE K C.toCf F1 (upd (upd H1 n (.lst [])) a (.dT (xs++[(k,.ref n)]))) O (Z.set i (some (.dp (.dt (cJ l k (.lst [])))))):=by
    refine R1.Ao d1 (di hl) e0 Pa (λzs z=>by cases z) (S':=λc=>P1 i c\/c=n) ?_ λc z=>?_
    ·rw[hput];refine .dt (S:=λm x=>(m<xs.length/\T m x)\/(m=xs.length/\x=n)) (xs:=xs++[(k,.ref n)]) aN (.inl Pa) (λm x z=>?_) (λm m' x z z'=>?_) (by simp[hkeys]) λm x r h1 h2=>?_
     ·rcases z with⟨_,z⟩|⟨_,z⟩
      ·exact⟨.inl (hT m x z).1,(hT m x z).2⟩
      ·exact⟨.inr z,by rw[z];exact nna⟩
     ·rcases z with⟨q,z⟩|⟨q,z⟩<;>rcases z' with⟨q',z'⟩|⟨q',z'⟩
      ·exact dj m m' x z z'
      ·exact absurd z' (inP i x (hT m x z).1)
      ·exact absurd z (inP i x (hT m' x z').1)
      ·rw[q,q']
     ·by_cases hm:m<xs.length
      ·rw[Zag hm] at h1;rw[Zag (by lia)] at h2
       exact((hch m x r h1 h2).up (aU.refl _) (λc o z y=>by rw[aJ (hT m c z).2];exact y) λc zs z=>by rw[aJ (λy=>by subst y;rw[ha] at z;cases z)];exact z).mono λc z=>.inl ⟨hm,z⟩
      ·have em:m=xs.length:=by
        have:=cF h1;simp at this;lia
       subst em;rw[Zap (Zan _),Zcm] at h1;rw[lx,Zap (Zan _),Zcm] at h2;cases h1;cases h2;exact .lst (S:=λ_ _=>False) (by rw[aJ nna];exact hn2) (.inr ⟨rfl,rfl⟩) (λ_ _ q=>q.elim) (λ_ _ _ q=>q.elim) rfl λj x p e1=>by simp at e1
    ·rcases z with z|z
     ·exact .inl z
     ·subst z;exact .inr ⟨u.fh.free hn,⟨_,hn2,λys q=>by cases q⟩,(d1.own i a Pa).2.2.1,RA.rb.vz hn,λj z=>inP j c z rfl,λj q f=>RA.apart hn j q f⟩
   have hn3:upd (upd H1 n (.lst [])) a (.dT (xs++[(k,.ref n)])) n=some (.lst []):=by rw[aJ nna];exact hn2
   refine⟨tyL hn3,?_⟩;rcases cQ hk1 with⟨z,e2,rfl⟩|⟨q,e2,hk2⟩
   ·exact he F1 _ O _ _ _ R3 e2 (PX.up Pq u.ff)
   split at hk2
   case isFalse=>cases hk2
   rename_i hq;cases hk2;refine he F1 _ O _ _ _ R3 e2 λw F2 H2 u2 rep=>?_;obtain⟨P3,d3⟩:=R3.dd;have ei:(Z.set i (some (.dp (.dt (cJ l k (.lst []))))))[i]?=some (some (.dp (.dt (cJ l k (.lst []))))):=by rw[ZbF,Zam rfl,Zam il]
   have hvn:jE (xs++[(k,V.ref n)]) k=some (.ref n):=by
    unfold jE at hv ⊢;rw[Option.map_eq_none_iff] at hv;rw[List.find?_append,hv];simp
   obtain⟨ys2,hb2,yl,RR⟩:=Ed (R3.up u2) (d3.up u2) ei e0 (u2.hh _ _ aN) hvn Sv rep hq.1;rw[Ss,Ni] at RR;exact⟨n,ys2,w,rfl,rfl,hb2,by rw[yl];exact hq.2,Pq F2 _ O (u.ff.trans u2.ff) RR⟩
end
end MP
open PySem PySem.Spec PySem.W PyProof PyProof.Rows
noncomputable abbrev Sk:=Str×List Int
def ltI:List Int->List Int->Bool
 |a::l,b::m=>if a=b then ltI l m else decide (a<b)
 |_,_=>false
def kE(p q:Sk):Bool:=if p.1=q.1 then ltI p.2 q.2 else decide (p.1.cps.toList<q.1.cps.toList)
theorem Bb:∀ l,ltI l l=false
 |[]=>rfl
 |a::l=>by unfold ltI;rw[Zam rfl];exact Bb l
theorem Ef:∀ {l m n:List Int},ltI l m=true->ltI m n=true->ltI l n=true
 |a::l,b::m,c::n,h1,h2=>by
  unfold ltI at h1 h2 ⊢;by_cases e1:a=b
  ·rw[Zam e1] at h1;by_cases e2:b=c
   ·rw[Zam e2] at h2;rw[Zam (e1.trans e2)];exact Ef h1 h2
   ·rw[Zal e2] at h2;rw[Zal (λz=>e2 (e1.symm.trans z)),e1];exact h2
  ·rw[Zal e1] at h1;have h1:=of_decide_eq_true h1;by_cases e2:b=c
   ·rw[Zal (λz=>e1 (z.trans e2.symm)),<-e2];exact ZaF h1
   ·rw[Zal e2] at h2;have h2:=of_decide_eq_true h2;rw[Zal (by omega)]
    exact ZaF (by omega)
 |[],_,_,h1,_=>by cases h1
 |_::_,[],_,h1,_=>by cases h1
 |_::_,_::_,[],_,h2=>by cases h2
theorem Eg:∀ {l m:List Int},l.length=m.length->l≠m->ltI l m=true\/ltI m l=true
 |[],[],_,h=>absurd rfl h
 |a::l,b::m,hl,h=>by
  unfold ltI;by_cases e:a=b
  ·subst e;rw[Zam rfl,Zam rfl];exact Eg (by simpa using hl) λz=>h (by rw[z])
  ·rw[Zal e,Zal (Zbl e)];rcases Int.lt_or_gt_of_ne e with q|q
   ·exact .inl (ZaF q)
   ·exact .inr (ZaF q)
theorem XQ{a b:Str}(h:a≠b):a.cps.toList≠b.cps.toList:=λe=>h (by
 cases a;cases b;simp only[Str.mk.injEq];exact Array.toList_inj.mp e)
theorem Jg(p:Sk):kE p p=false:=by unfold kE;rw[Zam rfl];exact Bb _
theorem Lg{p q t:Sk}(h1:kE p q=true)(h2:kE q t=true):kE p t=true:=by
 unfold kE at h1 h2 ⊢;by_cases e1:p.1=q.1
 ·rw[Zam e1] at h1;by_cases e2:q.1=t.1
  ·rw[Zam e2] at h2;rw[Zam (e1.trans e2)];exact Ef h1 h2
  ·rw[Zal e2] at h2;rw[Zal (λz=>e2 (e1.symm.trans z)),e1];exact h2
 ·rw[Zal e1] at h1;have h1:=of_decide_eq_true h1;by_cases e2:q.1=t.1
  ·rw[Zal (λz=>e1 (z.trans e2.symm)),<-e2];exact ZaF h1
  ·rw[Zal e2] at h2;have h2:=of_decide_eq_true h2;have h3:=List.lt_trans h1 h2;rw[Zal (λz=>by rw[z] at h3;exact List.lt_irrefl _ h3)]
   exact ZaF h3
theorem Bc{p q:Sk}(hl:p.2.length=q.2.length)(h:p≠q):kE p q=true\/kE q p=true:=by
 unfold kE;by_cases e:p.1=q.1
 ·rw[Zam e,Zam e.symm];exact Eg hl λz=>h (Zc5 e z)
 ·rw[Zal e,Zal (Zbl e)];by_cases q1:p.1.cps.toList<q.1.cps.toList
  ·exact .inl (ZaF q1)
  ·refine .inr (ZaF ?_);by_cases q2:q.1.cps.toList<p.1.cps.toList
   ·exact q2
   ·exact absurd (List.le_antisymm (List.not_lt.mp q2) (List.not_lt.mp q1)) (XQ e)
def rkS(ps:List Sk)(i:Nat):Nat:=((List.range ps.length).filter λj=>kE (ps.getD j default) (ps.getD i default)).length
structure uB(ps:List Sk)(m:Nat):Prop where
 nd:ps.Nodup
 ln:∀ p∈ps,p.2.length=m
section
variable{ps:List Sk}{m:Nat}
theorem xQ{i:Nat}(h:i<ps.length):ps.getD i default∈ps:=Zak (i:=i) (by rw[Zao,Zae h];rfl)
theorem uB.inj(o:uB ps m){i j:Nat}(hi:i<ps.length)(hj:j<ps.length)(e:ps.getD i default=ps.getD j default):i=j:=by
 have g:∀ i,i<ps.length->ps[i]?=some (ps.getD i default):=λi h=>by rw[Zao,Zae h];rfl
 exact(Zb8 hi o.nd).mp (by rw[g i hi,g j hj,e])
theorem Nj{i j:Nat}(hi:i<ps.length)(h:kE (ps.getD i default) (ps.getD j default)=true):rkS ps i<rkS ps j:=by
 unfold rkS;have sub:((List.range ps.length).filter λk=>kE (ps.getD k default) (ps.getD i default)).Sublist ((List.range ps.length).filter λk=>kE (ps.getD k default) (ps.getD j default)):=by
  have e:((List.range ps.length).filter λk=>kE (ps.getD k default) (ps.getD i default))=((List.range ps.length).filter λk=>kE (ps.getD k default) (ps.getD j default)).filter λk=>kE (ps.getD k default) (ps.getD i default):=by
   rw[List.filter_filter];refine ZcV λk _=>?_;cases q:kE (ps.getD k default) (ps.getD i default) with
   |false=>rfl
   |true=>rw[Lg q h];rfl
  rw[e];exact Za5
 refine Nat.lt_of_le_of_ne sub.length_le λe=>?_;have e:=sub.eq_of_length e;have:i∈(List.range ps.length).filter λk=>kE (ps.getD k default) (ps.getD j default):=Zav.mpr ⟨Zay.mpr hi,h⟩;rw[<-e] at this;have:=(Zav.mp this).2;rw[Jg] at this;cases this
theorem uB.lt(o:uB ps m){i j:Nat}(hi:i<ps.length)(hj:j<ps.length):kE (ps.getD i default) (ps.getD j default)=decide (rkS ps i<rkS ps j):=by
 cases q:kE (ps.getD i default) (ps.getD j default) with
 |true=>exact(ZaF (Nj hi q)).symm
 |false=>
  refine(ZaH λz=>?_).symm;by_cases e:ps.getD i default=ps.getD j default
  ·rw[o.inj hi hj e] at z;omega
  ·rcases Bc (by rw[o.ln _ (xQ hi),o.ln _ (xQ hj)]) e with w|w
   ·rw[q] at w;cases w
   ·have:=Nj hj w;omega
theorem uB.Zh(o:uB ps m){i j:Nat}(hi:i<ps.length)(hj:j<ps.length)(e:rkS ps i=rkS ps j):i=j:=by
 refine o.inj hi hj (Classical.byContradiction λne=>?_);rcases Bc (by rw[o.ln _ (xQ hi),o.ln _ (xQ hj)]) ne with w|w
 ·have:=Nj hi w;omega
 ·have:=Nj hj w;omega
def g8(ps:List Sk):List Nat:=(List.range ps.length).mergeSort λi j=>decide (rkS ps i<=rkS ps j)
theorem oG(ps:List Sk):(g8 ps).Perm (List.range ps.length):=List.mergeSort_perm _ _
theorem wk:∀ i∈g8 ps,i<ps.length:=λi hi=>Zay.mp ((oG ps).mem_iff.mp hi)
theorem Sx(ps:List Sk):(g8 ps).length=ps.length:=by rw[(oG ps).length_eq,ZaB]
theorem uB.ord(o:uB ps m):(g8 ps).Pairwise λi j=>rkS ps i<rkS ps j:=by
 have h:=List.pairwise_mergeSort (le:=λi j=>decide (rkS ps i<=rkS ps j)) (λa b c h1 h2=>by simp at h1 h2 ⊢;lia) (λa b=>by simp;lia) (List.range ps.length)
 have nd:(g8 ps).Nodup:=(oG ps).nodup_iff.mpr ZbL;refine(h.and nd).imp_of_mem λ{i j} hi hj q=>?_;have h1:rkS ps i<=rkS ps j:=by simpa using q.1
 exact Nat.lt_of_le_of_ne h1 λe=>q.2 (o.Zh (wk i hi) (wk j hj) e)
theorem uB.XS(o:uB ps m){l:List Nat}(p:l.Perm (List.range ps.length))(s:l.Pairwise λi j=>rkS ps i<rkS ps j):l=g8 ps:=
 List.Perm.eq_of_pairwise (le:=λi j=>rkS ps i<rkS ps j) (λi j _ _ h1 h2=>by lia) s o.ord (p.trans (oG ps).symm)
end
open PySem PySem.W PyProof.Rows
section
open PySem.W
variable{n:Nat}{r:Nat->Nat}
def Sd(r:Nat->Nat)(p:Array Nat)(m:Nat):Prop:=∀ i j,i<j->j<m->r (p.getD i 0)<r (p.getD j 0)
def Dn(r:Nat->Nat)(p:Array Nat)(m:Nat):Prop:=∀ i j,i<j->j<m->r (p.getD j 0)<r (p.getD i 0)
structure Pk(r:Nat->Nat)(n:Nat)(p:Array Nat):Prop where
 perm:p.toList.Perm (List.range n)
 ne:∀ i j,i<n->j<n->i≠j->r (p.getD i 0)≠r (p.getD j 0)
theorem Pk.size{p:Array Nat}(h:Pk r n p):p.size=n:=by
 have:=h.perm.length_eq;rw[ZaR,ZaB] at this;exact this
theorem Sy{p:Array Nat}(inj:∀ i j,i<n->j<n->r i=r j->i=j)(h:p.toList.Perm (List.range n)):Pk r n p:=by
 refine⟨h,λi j hi hj ne e=>?_⟩;have sz:p.size=n:=by
  have:=h.length_eq
  rwa [ZaR,ZaB] at this
 have gi:∀ i,i<n->p.toList[i]?=some (p.getD i 0):=λi hi=>by
  rw[Zbq,ZaN,ZaL (by omega)];rfl
 have lt:∀ i,i<n->p.getD i 0<n:=λi hi=>by
  have:=h.mem_iff.mp (Zak (gi i hi));exact Zay.mp this
 have nd:p.toList.Nodup:=h.nodup_iff.mpr ZbL;have e2:=inj _ _ (lt i hi) (lt j hj) e;have e3:p.toList[i]?=p.toList[j]?:=by rw[gi i hi,gi j hj,e2]
 exact ne ((Zb8 (by rw[ZaR];omega) nd).mp e3)
theorem jF{α β:Type}{lt:Nat->Nat->Bool}{f:α->KasT β}:∀ (t:KasT α),dZ lt (t.bind f)=dZ lt (f (dZ lt t))
 |.ret _=>rfl
 |.ask i j k=>jF (k (lt i j))
theorem yE{p:Array Nat}{i j:Nat}(hj:j<=p.size)(k:Nat):(kas_rev p i j).getD k 0=if i<=k/\k<j then p.getD (i+j-1-k) 0 else p.getD k 0:=by
 unfold kas_rev;rw[ZaN,getElem?_mirror_all hj];split<;>rw[ZaN]
theorem yF{p:Array Nat}{src d:Nat}(hs:src<p.size)(hd:d<=src)(k:Nat):(bubble p src d).getD k 0=if k=src-d then p.getD src 0 else if src-d<k/\k<=src then p.getD (k-1) 0 else p.getD k 0:=by
 simp only[ZaN,getElem?_bubble hs d hd];by_cases h:k=src-d
 ·rw[Zam h,Zam h]
 ·rw[Zal h,Zal h];by_cases h':src-d<k/\k<=src
  ·rw[Zam h',Zam h']
  ·rw[Zal h',Zal h']
theorem Jh{p q:Array Nat}(h:p.toList.Perm (List.range n))(e:q.Perm p):q.toList.Perm (List.range n):=(ZcK.mp e).trans h
variable{lt:Nat->Nat->Bool}(hlt:∀ i j,lt i j=decide (r i<r j))
include hlt
theorem Lh{p:Array Nat}(P:Pk r n p):∀ f m,1<=m->m+f<=n->Sd r p m->∃ m',dZ lt (kas_asc p f m)=m'/\m<=m'/\m'<=m+f/\Sd r p m'/\(m'<m+f->r (p.getD m' 0)<r (p.getD (m'-1) 0))
 |0,m,_,_,h=>⟨m,rfl,Zan _,Zan _,h,λz=>by omega⟩
 |f+1,m,h1,h2,h=>by
  show ∃ m',dZ lt (if lt (p.getD m 0) (p.getD (m-1) 0)=true then .ret m else kas_asc p f (m+1))=m'/\_
  rw[hlt];by_cases c:r (p.getD m 0)<r (p.getD (m-1) 0)
  ·rw[Zam (ZaF c)];exact⟨m,rfl,Zan _,by omega,h,λ_=>c⟩
  ·rw[Zal (by simpa using c)]
   have ne:=P.ne m (m-1) (by omega) (by omega) (by omega)
   have s':Sd r p (m+1):=λi j hij hj=>by
    by_cases hjm:j=m
    ·subst hjm;by_cases him:i=j-1
     ·subst him;omega
     ·have:=h i (j-1) (by omega) (by omega);omega
    ·exact h i j hij (by omega)
   obtain⟨m',e,a,b,c',d⟩:=Lh P f (m+1) (by omega) (by omega) s'
   exact⟨m',e,by omega,by omega,c',λz=>d (by omega)⟩
theorem Nk{p:Array Nat}(P:Pk r n p):∀ f m,2<=m->m+f<=n->Dn r p m->∃ m',dZ lt (kas_desc f p m 0)=(p,m',0)/\m<=m'/\m'<=m+f/\Dn r p m'
 |0,m,_,_,h=>⟨m,rfl,Zan _,Zan _,h⟩
 |f+1,m,h1,h2,h=>by
  show ∃ m',dZ lt (if lt (p.getD m 0) (p.getD (m-1) 0)=true then(if 0>0 then kas_desc f (kas_rev p (m-(0+1)) m) (m+1) 0 else kas_desc f p (m+1) 0)
   else .ask (p.getD (m-1) 0) (p.getD m 0) λd=>if d=true then .ret (p,m,0) else kas_desc f p (m+1) (0+1))=_/\_
  rw[hlt];have ne:=P.ne m (m-1) (by omega) (by omega) (by omega)
  by_cases c:r (p.getD m 0)<r (p.getD (m-1) 0)
  ·rw[Zam (ZaF c),Zal (by decide)]
   have s':Dn r p (m+1):=λi j hij hj=>by
    by_cases hjm:j=m
    ·subst hjm;by_cases him:i=j-1
     ·subst him;exact c
     ·have:=h i (j-1) (by omega) (by omega);omega
    ·exact h i j hij (by omega)
   obtain⟨m',e,a,b,c'⟩:=Nk P f (m+1) (by omega) (by omega) s'
   exact⟨m',e,by omega,by omega,c'⟩
  ·rw[Zal (by simpa using c)]
   show ∃ m',dZ lt (if lt (p.getD (m-1) 0) (p.getD m 0)=true then _ else _)=_/\_
   rw[hlt,Zam (ZaF (by omega))]
   exact⟨m,rfl,Zan _,by omega,h⟩
theorem oH{p:Array Nat}{k:Nat}(P:Pk r n p)(hk:k<n)(h:Sd r p k):∀ f a b,a<=b->b<=k->b-a<=f->(∀ i,i<a->r (p.getD i 0)<r (p.getD k 0))->(∀ i,b<=i->i<k->r (p.getD k 0)<r (p.getD i 0)) ->
  ∃ l,dZ lt (kas_place p k f a b)=l/\l<=k/\(∀ i,i<l->r (p.getD i 0)<r (p.getD k 0))/\∀ i,l<=i->i<k->r (p.getD k 0)<r (p.getD i 0)
 |0,a,b,h1,h2,h3,u,v=>⟨a,rfl,by lia,u,λi hi=>v i (by lia)⟩
 |f+1,a,b,h1,h2,h3,u,v=>by
  show ∃ l,dZ lt (if a>=b then .ret a else .ask (p.getD k 0) (p.getD ((a+b)/2) 0) λc=>if c=true then kas_place p k f a ((a+b)/2) else kas_place p k f ((a+b)/2+1) b)=l/\_
  by_cases hab:a>=b
  ·rw[Zam hab];exact⟨a,rfl,by lia,u,λi hi=>v i (by lia)⟩
  ·rw[Zal hab];show ∃ l,dZ lt (if lt (p.getD k 0) (p.getD ((a+b)/2) 0)=true then _ else _)=l/\_
   rw[hlt];have mk:(a+b)/2<k:=by lia
   by_cases c:r (p.getD k 0)<r (p.getD ((a+b)/2) 0)
   ·rw[Zam (ZaF c)];refine oH P hk h f a ((a+b)/2) (by lia) (by lia) (by lia) u λi hi hik=>?_
    by_cases e:i=(a+b)/2
    ·rw[e];exact c
    ·have:=h ((a+b)/2) i (by lia) hik;lia
   ·rw[Zal (by simpa using c)]
    have ne:=P.ne k ((a+b)/2) hk (by lia) (by lia)
    refine oH P hk h f ((a+b)/2+1) b (by lia) h2 (by lia) (λi hi=>?_) v
    by_cases e:i=(a+b)/2
    ·rw[e];lia
    ·have:=h i ((a+b)/2) (by lia) mk;lia
theorem SJ(inj:∀ i j,i<n->j<n->r i=r j->i=j):∀ f (p:Array Nat) k,Pk r n p->1<=k->k+f=n->Sd r p k->Pk r n (dZ lt (kas_bin f p k))/\Sd r (dZ lt (kas_bin f p k)) n
 |0,p,k,P,_,e,h=>⟨P,by have e:k=n:=e;rw[<-e];exact h⟩
 |f+1,p,k,P,h1,e,h=>by
  show Pk r n (dZ lt ((kas_place p k k 0 k).bind λl=>kas_bin f (bubble p k (k-l)) (k+1)))/\Sd r (dZ lt ((kas_place p k k 0 k).bind λl=>kas_bin f (bubble p k (k-l)) (k+1))) n
  rw[jF];obtain⟨l,el,lk',u,v⟩:=oH hlt P (by omega) h k 0 k (Za4 _) (Zan _) (by omega) (λi hi=>by omega) (λi hi hk=>by omega)
  rw[el];have sz:=P.size;refine SJ inj f _ _ (Sy inj (Jh P.perm (bubble_perm _ _ _))) (by omega) (by omega) λi j hij hj=>?_
  rw[yF (by omega) (by omega),yF (by omega) (by omega)]
  rw[show k-(k-l)=l by omega]
  by_cases hi:i=l
  ·rw[Zam hi];rw[Zal (show ¬j=l by omega),Zam (by omega)]
   exact v (j-1) (by omega) (by omega)
  ·rw[Zal hi];by_cases hj':j=l
   ·rw[Zam hj',Zal (by omega)]
    exact u i (by omega)
   ·rw[Zal hj'];by_cases hi2:l<i/\i<=k
    ·rw[Zam hi2,Zam (by omega)]
     exact h (i-1) (j-1) (by omega) (by omega)
    ·rw[Zal hi2];by_cases hj2:l<j/\j<=k
     ·rw[Zam hj2];by_cases q:i=j-1
      ·omega
      ·exact h i (j-1) (by omega) (by omega)
     ·rw[Zal hj2];exact h i j hij (by omega)
theorem Ji(inj:∀ i j,i<n->j<n->r i=r j->i=j){p:Array Nat}(P:Pk r n p)(h2:2<=n)(h:r (p.getD 1 0)<r (p.getD 0 0)):∃ m q,dZ lt (kas_descPart 1 n p)=(m,q)/\1<=m/\m<=n/\Pk r n q/\Sd r q m:=by
 unfold kas_descPart;rw[jF];obtain⟨m,e,a,b,d⟩:=Nk hlt P (n-2) 2 (Zan _) (by omega) λi j hij hj=>by
  have:i=0:=by omega
  have:j=1:=by omega
  subst i j;exact h
 have e:dZ lt (kas_desc (n-(1+1)) p (1+1) 0)=(p,m,0):=e;rw[e];show ∃ m' q,dZ lt (if(0:Nat)>0 then _ else kas_tail3 m n p)=(m',q)/\_
 rw[Zal (by decide)]
 unfold kas_tail3;rw[jF];have sz:=P.size;have P':Pk r n (kas_rev p 0 m):=Sy inj (Jh P.perm (mirror_perm _ _ _ _));obtain⟨m',e',a',b',d',_⟩:=Lh hlt P' (n-m) m (by omega) (by omega) λi j hij hj=>by
  rw[yE (by omega),yE (by omega),Zam (by omega),Zam (by omega)]
  exact d _ _ (by omega) (by omega)
 rw[e'];exact⟨m',_,rfl,by omega,by omega,P',d'⟩
theorem SM(inj:∀ i j,i<n->j<n->r i=r j->i=j){p:Array Nat}(P:Pk r n p)(h2:2<=n):∃ m q,dZ lt (kas_count n p)=(m,q)/\1<=m/\m<=n/\Pk r n q/\Sd r q m:=by
 unfold kas_count;rw[jF];obtain⟨m,e,a,b,d,q⟩:=Lh hlt P (n-1) 1 (Zan _) (by omega) λi j hij hj=>by omega
 rw[e];by_cases c:m=n
 ·rw[Zam (by simpa using c)]
  exact⟨m,p,rfl,a,by omega,P,d⟩
 ·rw[Zal (by simpa using c)]
  have q:=q (by omega)
  by_cases m1:m>1
  ·rw[Zam m1];show ∃ m' q',dZ lt (if lt (p.getD 0 0) (p.getD (m-1) 0)=true then _ else _)=(m',q')/\_
   rw[hlt,Zam (ZaF (d 0 (m-1) (by omega) (by omega)))]
   exact⟨m,p,rfl,a,by omega,P,d⟩
  ·rw[Zal m1];have:m=1:=by omega
   subst this;exact Ji hlt inj P h2 q
theorem Vf(inj:∀ i j,i<n->j<n->r i=r j->i=j)(h2:2<=n):Pk r n (dZ lt (kas_sort n))/\Sd r (dZ lt (kas_sort n)) n:=by
 unfold kas_sort;rw[jF];obtain⟨m,q,e,a,b,P,d⟩:=SM hlt inj (p:=List.toArray (List.range n)) (Sy inj (List.Perm.refl _)) h2;rw[e];show Pk r n (dZ lt (if m<n then _ else .ret q))/\Sd r (dZ lt (if m<n then _ else .ret q)) n
 by_cases c:m<n
 ·rw[Zam c,show max m 1=m by omega]
  exact SJ hlt inj _ _ _ P a (by omega) d
 ·rw[Zal c];have:m=n:=by omega
  subst this;exact⟨P,d⟩
end
open PySem PySem.Spec PySem.W PyProof PyProof.Rows
def qd(h:Heap)(v:Value)(p:Sk):Prop:=∃ a o t ys n,v=.ref a/\h.get? a=some o/\o.cls=.type "tuple"/\o.data=.seq (List.toArray (.str p.1 t::ys)) n/\IntsAre ys p.2
theorem Eh:∀ {ys:List Value}{ns ms:List Int},IntsAre ys ns->IntsAre ys ms->ns=ms
 |_,_,_,.nil,.nil=>rfl
 |_,_,_,.cons n _ h1,.cons _ _ h2=>by rw[Eh h1 h2]
section
variable{prog:Program}{w:World}{A:Around}{E:Value->Shared->Prop}{s:Shared}{v u:Value}{p q:Sk}
theorem qd.same{h h':Heap}(x:qd h v p)(k:∀ a o,v=.ref a->h.get? a=some o->h'.get? a=some o):qd h' v p:=by
 obtain⟨a,o,t,ys,n,e,h1,h2⟩:=x;exact⟨a,o,t,ys,n,e,k a o e h1,h2⟩
theorem qd.XS{h:Heap}(x:qd h v p)(y:qd h v q):p=q:=by
 obtain⟨a,o,t,ys,n,rfl,h1,_,h3,h4⟩:=x;obtain⟨a',o',t',ys',n',e,g1,_,g3,g4⟩:=y;cases e;rw[h1] at g1;cases g1;rw[h3] at g3;injection g3 with e1 _
 have e1:=ZaY Array.toList e1;simp only at e1;injection e1 with e2 e3
 injection e2 with e4 _
 subst e3;exact Zc5 e4 (Eh h4 g4)
theorem Jj{Q:Bool->Shared->Prop}:∀ {ys zs:List Value}{ns ms:List Int} (i:Nat),IntsAre ys ns->IntsAre zs ms->ns.length=ms.length->Q (ltI ns ms) s->KatLex prog w A true false Q (ys.zip zs) (i+1) s
 |_,_,_,_,i,.nil,.nil,_,h=>kat_nil h
 |_,_,_,_,i,.cons n t h1,.cons m t' h2,hl,h=>by
  refine kat_cons (wpAny_eqBool_int ?_);by_cases d:n=m
  ·rw[beq_iff_eq.mpr d];refine kat_yes (Jj (i+1) h1 h2 (by simpa using hl) ?_)
   unfold ltI at h;rw[Zam d] at h;exact h
  ·rw[beq_eq_false_iff_ne.mpr d];refine kat_no ?_;rw[show(true&&i+1==0)=false by simp]
   unfold ltI at h;rw[Zal d] at h;exact kat_one _ _ (lt_int h)
 |_,_,_,_,_,.nil,.cons ..,hl,_=>by simp at hl
 |_,_,_,_,_,.cons ..,.nil,hl,_=>by simp at hl
theorem Be:∀ {ys:List Value}{ns:List Int},IntsAre ys ns->ys.length=ns.length
 |_,_,.nil=>rfl
 |_,_,.cons _ _ h=>by simp[Be h]
theorem qd.lt(hp:qd s.heap v p)(hq:qd s.heap u q)(hl:p.2.length=q.2.length){Q:Bool->Shared->Prop}(h:Q (kE p q) s):wpAny (model prog w) A (keyLt' (tuples' true) v u) Q E s:=by
 obtain⟨a,o,t,ys,n,rfl,e1,e2,e3,e4⟩:=hp;obtain⟨b,o',t',zs,n',rfl,f1,f2,f3,f4⟩:=hq;refine kat_lt e1 e3 f1 f3 (kat_cons (wpAny_eqBool_str ?_));rw[show decide ((List.toArray (Value.str p.1 t::ys)).size<(List.toArray (Value.str q.1 t'::zs)).size)=false by
  refine ZaH ?_;simp[Be e4,Be f4,hl]]
 by_cases c:p.1=q.1
 ·rw[ZaF c];refine kat_yes (Jj 0 e4 f4 hl ?_);rw[show kE p q=ltI p.2 q.2 by unfold kE;rw[Zam c]] at h
  exact h
 ·rw[ZaH c];refine kat_no ?_;show wpAny _ _ (oneLt' true _ _) _ _ _
  rw[show kE p q=decide (p.1.cps.toList<q.1.cps.toList) by unfold kE;rw[Zal c]] at h
  exact oneLt_str h
theorem SN{vs:List Value}{ps:List Sk}{m:Nat}(ok:uB ps m)(hl:vs.length=ps.length)(hp:∀ (i:Nat) v p,vs[i]?=some v->ps[i]?=some p->qd s.heap v p)(h2:2<=vs.length)(h64:vs.length<64) :
  wpAny (model prog w) A (sortRuns'.run (SortSt.mk' (tuples' true) (vs.toArray.zip vs.toArray) #[] 7 none)) (λr s'=>s'=s/\failedOf r.2=none/\(arrOf r.2).map (·.2)=List.toArray ((g8 ps).map λi=>vs.getD i .none)/\(arrOf r.2).size=vs.length) E s:=by
 have at_:∀ i,i<vs.length->qd s.heap (vs.getD i .none) (ps.getD i default):=λi h=>hp i _ _ (by rw[Zao,Zae h];rfl) (by rw[Zao,Zae (by lia)];rfl)
 obtain⟨pk,sd⟩:=Vf (n:=vs.length) (r:=rkS ps) (lt:=λi j=>decide (rkS ps i<rkS ps j)) (λ_ _=>rfl) (λi j hi hj e=>ok.Zh (by lia) (by lia) e) h2
 have eo:(dZ (λi j=>decide (rkS ps i<rkS ps j)) (kas_sort vs.length)).toList=g8 ps:=by
  refine ok.XS (by rw[<-hl];exact pk.perm) ?_
  rw[ZcP];intro i j hi hj hij;have sz:=pk.size;rw[ZaR] at hi hj;have:=sd i j hij (by lia)
  rw[ZaN,ZaN,ZaL hi,ZaL hj] at this;exact this
 refine kat_run (κ:=tuples' true) (ks:=vs) (vs:=vs) (Q:=λst' s'=>s'=s/\failedOf st'=none/\(arrOf st').map (·.2)=List.toArray ((g8 ps).map λi=>vs.getD i .none)/\(arrOf st').size=vs.length) (G:=λr s'=>r=dZ (λi j=>decide (rkS ps i<rkS ps j)) (kas_sort vs.length)/\s'=s) rfl h2 h64 (λr st' s' r1 r2 r3 r4=>⟨r4.2,r3,by rw[kat_snds rfl r2,r4.1,eo],by rw[r2,ZcQ,r1]⟩)
  ((Ve (n:=vs.length) (by lia)).run (lt:=λi j=>decide (rkS ps i<rkS ps j)) (λi j C hi hj hc=>?_) ⟨rfl,rfl⟩)
 refine qd.lt (at_ i hi) (at_ j hj) (by rw[ok.ln _ (xQ (by lia)),ok.ln _ (xQ (by lia))]) ?_
 rw[ok.lt (by lia) (by lia)]
 exact hc
theorem Bf{h:Heap}:∀ {vs:List Value}{ps:List Sk},ps.length=vs.length->(∀ (i:Nat) v p,vs[i]?=some v->ps[i]?=some p->qd h v p)->∃ fs:List Value,KatTups h vs fs/\fs.length=vs.length/\∀ f∈fs,∃ x t,f=.str x t
 |[],_,_,_=>⟨[],.nil,rfl,λ_ h=>nomatch h⟩
 |v::vs,[],e,_=>by cases e
 |v::vs,p::ps,e,hp=>by
  obtain⟨a,o,t,ys,n,rfl,e1,e2,e3,_⟩:=hp 0 v p rfl rfl;obtain⟨fs,k,l,z⟩:=Bf (vs:=vs) (ps:=ps) (by simpa using e) λi v p h1 h2=>hp (i+1) v p h1 h2
  refine⟨_,.cons e1 e2 e3 rfl k,by simp[l],λf hf=>?_⟩
  rcases ZaC.mp hf with y|y
  ·exact⟨_,_,y⟩
  ·exact z f y
theorem PN{r:Nat->Nat->Prop}{n:Nat}(h:n<2):(List.range n).Pairwise r:=by
 rcases(by omega:n=0\/n=1) with rfl|rfl
 ·exact .nil
 ·exact List.pairwise_singleton _ _
theorem Vg{vs:List Value}(h:vs.length<2):((vs.toArray.zip vs.toArray).map (·.2)).toList=(List.range vs.length).map λi=>vs.getD i .none:=by
 cases vs with
 |nil=>simp
 |cons v l=>
  cases l with
  |nil=>simp[List.range_succ]
  |cons u l=>simp at h;omega
theorem wu{a:Addr}{vs:List Value}{ps:List Sk}{m:Nat}{n:Nat}{P:PySem.Fin->Shared->Prop}(ho:s.heap.get? a=some (seqObj "list" vs.toArray n))(hl:ps.length=vs.length)
  (hp:∀ (i:Nat) v p,vs[i]?=some v->ps[i]?=some p->qd s.heap v p)(ok:uB ps m)(h64:vs.length<64)
  (h:(g8 ps).length=vs.length->P (.done (.ret .none)) { s with heap:=sortedHeap s.heap a vs (List.toArray ((g8 ps).map λi=>vs.getD i .none)) }):wpAny (model prog w) A (Builtin.«list.sort» ⟨[.ref a],[]⟩) P E s:=by
 rw[list_sort_plain];have hz64:vs.length<sizeLine:=ZaG h64 (by decide)
 have ha:a<s.heap.objs.size:=Zau ho;obtain⟨c1,g1⟩:∃ c,(s.heap.update a (Obj.mapSeq λ_=>(#[]:Array Value))).get? a=some (seqObj "list" #[] c):=⟨_,get?_update_seq ho λ_=>#[]⟩;have old:∀ (b:Addr) (o:Obj),b≠a->s.heap.get? b=some o->(((s.heap.update a (Obj.mapSeq λ_=>(#[]:Array Value))).push (seqObj "tuple" vs.toArray 0)).push (seqObj "list" #[] 0)).get? b=some o:=λb o ne e=>
  Zaj _ (Zaj _ ((Heap.get?_update_ne _ _ _ _ ne).trans e))
 have g2:(((s.heap.update a (Obj.mapSeq λ_=>(#[]:Array Value))).push (seqObj "tuple" vs.toArray 0)).push (seqObj "list" #[] 0)).get? a=some (seqObj "list" #[] c1):=Zaj _ (Zaj _ g1);refine Zaa (listItems_at ho rfl (Zaa (listUpdate_at ho rfl ?_ (by rw[List.size_toArray];exact ZaA hz64) (Za4 _))))
 refine Zaa (seqEpoch_at g1 rfl (Zaa (wpAny_newTuple (Zaa (wpAny_newList (wpAny_holding ?_) (Za4 _))) (by show vs.length<=_;exact ZaA hz64))))
 show wpAny (model prog w) A _ P E { s with heap:=((s.heap.update a (Obj.mapSeq λ_=>(#[]:Array Value))).push (seqObj "tuple" vs.toArray 0)).push (seqObj "list" #[] 0) }
 dsimp only;by_cases h2:vs.toArray.size<2
 ·rw[Zam h2,Zam h2];refine Zaa (Zah ?_);rw[StateT.run_pure];refine Zaa (Zah ?_);dsimp only;have eo:(arrOf (SortSt.mk' general' (vs.toArray.zip vs.toArray) #[] 7 none)).map (·.2)=List.toArray ((g8 ps).map λi=>vs.getD i .none):=by
   show(vs.toArray.zip vs.toArray).map (·.2)=_
   apply Array.toList_inj.mp
   rw[List.size_toArray] at h2;have eo:g8 ps=List.range vs.length:=by
    exact(ok.XS (by rw[hl]) (PN h2)).symm
   rw[eo];exact Vg h2
  rw[eo];refine Zaa (seqEpoch_at g2 rfl (Zaa (listUpdate_at g2 rfl ?_ (Za4 _) ?_)))
  ·simp only[bne_self_eq_false,ZbB,Zbb];rw[List.size_toArray] at h2;exact Zah (h (by rw[Sx,hl]))
  ·rw[List.size_toArray] at h2;rw[<-eo];refine ZaI (Nat.le_of_eq (ZcQ ..)) ?_;show(vs.toArray.zip vs.toArray).size<=_
   rw[Array.size_zip,List.size_toArray,Nat.min_self];exact Nat.le_succ_of_le (ZaA hz64)
 ·rw[Zal h2,Zal h2];rw[List.size_toArray] at h2;have notA:∀ b o,(∃ v∈vs,v=.ref b)->s.heap.get? b=some o->b≠a:=by
   rintro b o ⟨v,hv,e⟩ hb z;obtain⟨i,hi⟩:=ZaZ hv;have il:i<ps.length:=by rw[hl];exact(Zad.mp hi).1
   obtain⟨b',o',t,ys,n',e',f1,f2,_⟩:=hp i v _ hi (Zae il);rw[e] at e';cases e';rw[z,ho] at f1;cases f1;exact absurd (show Value.type "list"=Value.type "tuple" from f2) (by decide)
  have hp2:∀ (i:Nat) v p,vs[i]?=some v->ps[i]?=some p->qd (((s.heap.update a (Obj.mapSeq λ_=>(#[]:Array Value))).push (seqObj "tuple" vs.toArray 0)).push (seqObj "list" #[] 0)) v p:=λi v p h1 h2=>
   (hp i v p h1 h2).same λb o e1 e2=>old b o (notA b o ⟨v,Zak h1,e1⟩ e2) e2
  obtain⟨fs,k1,k2,k3⟩:=Bf hl hp2;refine Zaa (kat_kind (s:={ s with heap:=_ }) (T:=.type "str") k1 (by omega) (λf hf=>?_) (by decide) ?_)
  ·obtain⟨x,t,rfl⟩:=k3 f hf;exact .now
  show wpAny _ _ _ _ _ _
  rw[show tuples' (Value.type "str" != Value.type "tuple")=tuples' true from rfl];have run:=SN (prog:=prog) (w:=w) (A:=A) (E:=E) (s:={ s with heap:=((s.heap.update a (Obj.mapSeq λ_=>(#[]:Array Value))).push (seqObj "tuple" vs.toArray 0)).push (seqObj "list" #[] 0) }) ok hl.symm hp2 (by omega) h64
  refine Zaa (Zbk run ?_ λ_ _ e=>e);rintro⟨⟨⟩,st'⟩ s' ⟨rfl,hf,hm,hz⟩;dsimp only;rw[hm];refine Zaa (seqEpoch_at g2 rfl (Zaa (listUpdate_at g2 rfl ?_ (Za4 _) ?_)))
  ·rw[hf];simp only[bne_self_eq_false,ZbB,Zbb];refine Zah (h ?_);have:=ZaY Array.size hm;rw[ZcQ,hz,List.size_toArray,Zab] at this;exact this.symm
  ·rw[<-hm];refine ZaI (Nat.le_of_eq ((ZcQ ..).trans hz)) (Nat.le_succ_of_le (ZaA hz64))
end
open PySem PySem.Spec PySem.W PyProof PyProof.Rows
def skV(p:Sk):HO:=.tup (.str p.1::p.2.map V.int)
def skK(p:Sk):List Key:=.inr p.1::p.2.map .inl
theorem Zi(p:Sk):HO.tup ((skK p).map kV)=skV p:=by unfold skK skV;simp[kV,Function.comp_def]
theorem Wo{h:Heap}{b:Addr}{ob:Obj}{its:List Value}{n:Nat}{p:Sk}(r:Vals (.str p.1::p.2.map V.int) its)(w1:h.get? b=some ob)(w2:ob.cls=.type "tuple")(w3:ob.data=.seq its.toArray n):qd h (.ref b) p:=by
 cases r with
 |cons r1 r2=>
  obtain⟨t1,rfl⟩:=r1;exact⟨b,ob,t1,_,n,rfl,w1,w2,w3,MP.Aa r2⟩
def Nm(K:Frag):List V->Hp->VK->Prop:=λxs H Q=>∃ (p:Addr) (bs:List Addr) (ps:List Sk) (m:Nat),xs=[.ref p]/\SqL K H p (bs.map V.ref)/\bs.length=ps.length/\(∀ (j:Nat) b p,bs[j]?=some b->ps[j]?=some p->H b=some (skV p))/\uB ps m/\ps.length<64 /\
 ∀ l,H l=none->Q (.ref l) (upd H l (.lst ((g8 ps).map λj=>.ref (bs.getD j 0))))
def yG:List Key->Option (List Int)
 |[]=>some []
 |.inl n::l=>(yG l).map (n::·)
 |_=>none
theorem Jk:∀ {l:List Key}{ns:List Int},yG l=some ns->l=ns.map .inl
 |[],ns,h=>by cases h;rfl
 |.inl n::l,ns,h=>by
  have h:(yG l).map (n::·)=some ns:=h;obtain⟨q,e1,rfl⟩:=Zbo.mp h;rw[Jk e1];rfl
def kSk:List Key->Option Sk
 |.inr x::l=>(yG l).map λns=>(x,ns)
 |_=>none
theorem XX:∀ {l:List Key}{p:Sk},kSk l=some p->l=skK p
 |.inr x::l,p,h=>by
  have h:(yG l).map (λns=>(x,ns))=some p:=h;obtain⟨q,e1,rfl⟩:=Zbo.mp h;rw[Jk e1];rfl
def CG:List (List Key)->Option (List Sk)
 |[]=>some []
 |k::ks=>match kSk k,CG ks with
  |some p,some ps=>some (p::ps)
  |_,_=>none
theorem Np:∀ {ks:List (List Key)}{ps:List Sk},CG ks=some ps->ps.length=ks.length/\∀ (i:Nat) p,ps[i]?=some p->ks[i]?=some (skK p)
 |[],ps,h=>by cases h;exact⟨rfl,λi p e=>by simp at e⟩
 |k::ks,ps,h=>by
  unfold CG at h;split at h
  ·rename_i p qs h1 h2;cases h;obtain⟨g1,g2⟩:=Np h2;refine⟨by simp[g1],λi q e=>?_⟩
   cases i with
   |zero=>cases e;rw[XX h1];rfl
   |succ i=>exact g2 i q (by simpa using e)
  ·cases h
def Nq:List V->Hp->VK->Prop:=λxs H Q=>∃ p kvs ps m,xs=[.ref p]/\Rd H p (.dT kvs)/\CG (kvs.map (·.1))=some ps/\uB ps m/\ps.length<64/\∀ l (ad:Nat->Addr),H l=none->(∀ j∈g8 ps,H (ad j)=some (skV (ps.getD j default)))->Q (.ref l) (upd H l (.lst ((g8 ps).map λj=>.ref (ad j))))
section
variable{X:Cx}
theorem tu:jR X (.builtin "sorted") (Nm X.K):=by
 intro pins s O H xs us Q I rv h;obtain⟨p,bs,ps,m,rfl,hq,hl,ht,ok,h64,q⟩:=h;obtain⟨u,rfl,ru⟩:=rv.one;cases ru;obtain⟨its,r,pl,hz⟩:=I.list hq;have ei:=Ec r;subst ei;have hlen:(bs.map Value.ref).length=ps.length:=by rw[Zab,hl]
 have prs:∀ (i:Nat) v p,(bs.map Value.ref)[i]?=some v->ps[i]?=some p->qd s.heap v p:=λi v p h1 h2=>by
  rw[Zac] at h1;cases hb:bs[i]? with
  |none=>rw[hb] at h1;cases h1
  |some b=>
   rw[hb] at h1;cases h1;obtain⟨_,its,r,⟨ob,w1,w2,n,w3⟩,_⟩:=(show dG X.prog X.w H s.heap b (skV p) from I.hok b _ (ht i b p hb h2));exact Wo r w1 w2 w3
 refine Zcf kind_sorted plain_sorted entry_sorted (args_sorted1 _) ?_;unfold Builtin.«sorted»;refine Zaa (m:=checkCount "sorted" 1 1 _) (Zah ?_);refine Zaa (collect_list pl.isList ?_ (by rw[hlen];exact ZaI (ZaA h64) (by decide:64<=sizeLine)))
 refine Zaa (wpAny_newList ?_ (by rw[hlen];exact ZaI (ZaA h64) (by decide:64<=sizeLine)))
 have hsz:((s.heap.push (seqObj "list" #[] 0)).update s.heap.objs.size (Obj.mapSeq (·++(bs.map Value.ref).toArray))).objs.size=s.heap.objs.size+1:=by
  rw[Heap.size_update,size_push']
 have hoL:(((s.heap.push (seqObj "list" #[] 0)).update s.heap.objs.size (Obj.mapSeq (·++(bs.map Value.ref).toArray))).push (seqObj "list" (bs.map Value.ref).toArray 0)).get? (s.heap.objs.size+1)=some (seqObj "list" (bs.map Value.ref).toArray 0):=by
  rw[<-hsz];exact Zar _ rfl
 have keep:∀ b o,s.heap.get? b=some o->(((s.heap.push (seqObj "list" #[] 0)).update s.heap.objs.size (Obj.mapSeq (·++(bs.map Value.ref).toArray))).push (seqObj "list" (bs.map Value.ref).toArray 0)).get? b=some o:=λb o q=>by
  have hlt:b<s.heap.objs.size:=Zau q;rw[Heap.get?_push_ne _ _ _ (by rw[hsz];exact ZaE (ZcS hlt)),Heap.get?_update_ne _ _ _ _ (ZaE hlt),Heap.get?_push_ne _ _ _ (ZaE hlt)]
  exact q
 show wpAny _ _ _ _ _ { s with heap:=((s.heap.push (seqObj "list" #[] 0)).update s.heap.objs.size (Obj.mapSeq (·++(bs.map Value.ref).toArray))).push (seqObj "list" (bs.map Value.ref).toArray 0) }
 rw[hsz];refine Zaa (wpAny_holding (wpAny_call_entry slot_list_sort ⟨_,hoL,rfl⟩ entry_list_sort (wu (ps:=ps) hoL hlen.symm (λi v p h1 h2=>(prs i v p h1 h2).same λb o _ e=>keep b o e) ok (by rw[hlen];exact h64) λhn=>⟨_,rfl,?_⟩) (args_list_sort _)))
 refine Zah ⟨_,rfl,?_⟩;obtain⟨e',he⟩:=sortedAll_at s.heap (bs.map Value.ref) (List.toArray ((g8 ps).map λi=>(bs.map Value.ref).getD i .none));have fresh:H (s.heap.objs.size+1)=none:=I.hok.fresh (ZbQ _);refine⟨.ref (s.heap.objs.size+1),upd H (s.heap.objs.size+1) (.lst ((g8 ps).map λj=>.ref (bs.getD j 0))),I.laid (t':=s.toks) (λb o=>sortedAll_old (vs:=bs.map Value.ref)) (ZbQ _) ⟨?_,(g8 ps).map λi=>(bs.map Value.ref).getD i .none,e',Az λj hj=>?_,he⟩,rfl,q _ fresh⟩
 ·rw[Zab,hn,hlen];exact ZaI (ZaA h64) (by decide:64<=sizeLine)
 ·have hj:j<bs.length:=by rw[hl];exact wk j hj
  rw[Zao (l:=bs.map Value.ref),Zac,Zao (l:=bs),Zae hj];rfl
theorem CJ(hc:X.calm=true):jR X (.builtin "sorted") Nq:=by
 intro pins s O H xs us Q I rv h;obtain⟨p,kvs,ps,m,rfl,e,hk,ok,h64,q⟩:=h;obtain⟨u,rfl,ru⟩:=rv.one;cases ru;obtain⟨z,hd,ts,rel,o,es,ep,d1,d2,d3,d4,d5,d6⟩:=vm I.hok e;obtain⟨lx,ax⟩:=rel.at;obtain⟨lp,ap⟩:=Np hk;rw[Zab] at lp;have sz:es.size=ts.length:=by rw[<-ZaR,d4,Zab]
 have at1:∀ j,j<ps.length->∃ b u,ts[j]?=some (skK (ps.getD j default),b,u)/\H b=some (skV (ps.getD j default))/\es[j]?=some (entryOfKey (tupleKind (bN X.prog X.w)) (skK (ps.getD j default),b,u)):=λj hj=>by
  have e1:ps[j]?=some (ps.getD j default):=by rw[Zao,Zae hj];rfl
  obtain⟨b,u,h1,h2⟩:=ax j _ (ap j _ e1);rw[Zi] at h2;refine⟨b,u,h1,h2,?_⟩;rw[<-Zbq,d4,Zac,h1];rfl
 refine Zcf kind_sorted plain_sorted entry_sorted (args_sorted1 _) ?_;unfold Builtin.«sorted»;refine Zaa (m:=checkCount "sorted" 1 1 _) (Zah ?_);refine Zaa (PySem.W.kdu_collect (Vd (es:=es) (ep:=ep) hd) (I.ok.hd hc) ⟨o,d1,d2,d3⟩ (by lia) λh' tk acc hold hacc=>?_)
 have hla:acc.toList.length=ps.length:=by rw[ZaR,hacc.1];lia
 have acc_at:∀ (j:Nat) b,(∃ u,ts[j]?=some (skK (ps.getD j default),b,u))->acc.toList[j]?=some (.ref b):=λj b ⟨u,hu⟩=>by
  have hj:j<acc.toList.length:=by rw[hla];have:=(Zad.mp hu).1;lia
  obtain⟨x,y1,y2⟩:=hacc.2 j _ (by rw[<-Zbq];exact Zae hj)
  rw[<-Zbq,d4,Zac,hu] at y1;cases y1;rw[Zae hj,y2];rfl
 have I1:Inv X pins O H { s with heap:=h',toks:=tk }:=I.kept hold;have prs:∀ (i:Nat) v p,acc.toList[i]?=some v->ps[i]?=some p->qd h' v p:=λi v p h1 h2=>by
  have hi:i<ps.length:=(Zad.mp h2).1;have ep':ps.getD i default=p:=by rw[Zao,h2];rfl
  obtain⟨b,u,y1,y2,_⟩:=at1 i hi;rw[acc_at i b ⟨u,y1⟩] at h1;cases h1;rw[ep'] at y2;obtain⟨_,its,r,⟨ob,w1,w2,n,w3⟩,_⟩:=(show dG X.prog X.w H h' b (skV p) from I1.hok b _ y2);exact Wo r w1 w2 w3
 refine Zaa (wpAny_newList ?_ (by rw[hla];exact ZaI (ZaA h64) (by decide:64<=sizeLine)))
 have hoL:(h'.push (seqObj "list" acc.toList.toArray 0)).get? h'.objs.size=some (seqObj "list" acc.toList.toArray 0):=Zar _ rfl;show wpAny _ _ _ _ _ { s with heap:=h'.push (seqObj "list" acc.toList.toArray 0),toks:=tk }
 refine Zaa (wpAny_holding (wpAny_call_entry slot_list_sort ⟨_,hoL,rfl⟩ entry_list_sort (wu (ps:=ps) hoL hla.symm (λi v p h1 h2=>(prs i v p h1 h2).same λb o _ e=>Zaj _ e) ok (by rw[hla];exact h64) λhn=>⟨_,rfl,?_⟩) (args_list_sort _)))
 refine Zah ⟨_,rfl,?_⟩;obtain⟨e',he⟩:=sortedHeap_at (out:=List.toArray ((g8 ps).map λi=>acc.toList.getD i .none)) hoL;have fresh:H h'.objs.size=none:=I1.hok.fresh (Zan _);have ads:∀ j∈g8 ps,∃ b u,ts[j]?=some (skK (ps.getD j default),b,u)/\H b=some (skV (ps.getD j default)):=λj hj=>by
  obtain⟨b,u,y1,y2,_⟩:=at1 j (wk j hj);exact⟨b,u,y1,y2⟩
 refine⟨.ref h'.objs.size,upd H h'.objs.size (.lst ((g8 ps).map λj=>.ref (ts.getD j ([],0,.none)).2.1)),I1.laid (t':=tk) (λb o=>vW) (Zan _) ⟨?_,(g8 ps).map λi=>acc.toList.getD i .none,e',Az λj hj=>?_,he⟩,rfl,q _ (λj=>(ts.getD j ([],0,.none)).2.1) fresh λj hj=>?_⟩
 ·rw[Zab,hn,hla];exact ZaI (ZaA h64) (by decide:64<=sizeLine)
 ·obtain⟨b,u,y1,y2⟩:=ads j hj;rw[Zao (l:=ts),y1,Zao (l:=acc.toList),acc_at j b ⟨u,y1⟩];rfl
 ·obtain⟨b,u,y1,y2⟩:=ads j hj;rw[Zao (l:=ts),y1];exact y2
end
end L2
namespace L2.MP
open PySem PySem.Spec PySem.W PyProof PyProof.Rows
def skP(p:Sk):PV:=.tup (.str p.1::p.2.map PV.int)
def X3:PV->Option Sk
 |.tup (.str x::l)=>(gR l).map λns=>(x,ns)
 |_=>none
theorem mq{l:List PV}:∀ {ns:List Int},gR l=some ns->l=ns.map PV.int:=by
 induction l with
 |nil=>intro ns h;cases h;rfl
 |cons a l ih=>
  intro ns h;have inv:∃ n,a=.int n:=by
   clear ih
   cases a<;>first|exact noS h|exact⟨_,rfl⟩
  obtain⟨n,rfl⟩:=inv;have h:(gR l).map (n::·)=some ns:=h;obtain⟨q,e1,rfl⟩:=Zbo.mp h;rw[ih e1];rfl
theorem Vh{p:PV}{q:Sk}(h:X3 p=some q):p=skP q:=by
 have inv:∃ x l,p=.tup (.str x::l):=by
  cases p<;>first|exact noS h|(rename_i l;cases l<;>first|exact noS h|(rename_i a l;cases a<;>first|exact noS h|exact⟨_,_,rfl⟩))
 obtain⟨x,l,rfl⟩:=inv;have h:(gR l).map (λns=>(x,ns))=some q:=h;obtain⟨ns,e1,rfl⟩:=Zbo.mp h;rw[mq e1];rfl
def Bg:List PV->Option (List Sk)
 |[]=>some []
 |p::l=>match X3 p,Bg l with
  |some q,some qs=>some (q::qs)
  |_,_=>none
theorem Jl:∀ {l:List PV}{ps:List Sk},Bg l=some ps->l=ps.map skP
 |[],ps,h=>by cases h;rfl
 |p::l,ps,h=>by
  unfold Bg at h;split at h
  ·rename_i q qs h1 h2;cases h;rw[Vh h1,Jl h2];rfl
  ·cases h
def m5(ps:List Sk):Bool:=match ps with
 |[]=>true
 |p::l=>l.all λq=>q.2.length==p.2.length
theorem Bh{ps:List Sk}(h:m5 ps=true)(nd:ps.Nodup):∃ m,uB ps m:=by
 cases ps with
 |nil=>exact⟨0,nd,λp hp=>(nomatch hp)⟩
 |cons p l=>
  refine⟨p.2.length,nd,λq hq=>?_⟩;rcases ZaC.mp hq with e|e
  ·rw[e]
  ·exact beq_iff_eq.mp (ZaT.mp h q e)
def rO(l:List PV):Option (Res PV):=match Bg l with
 |some ps=>if ps.Nodup/\m5 ps=true/\ps.length<64 then some (.ok (.lst ((g8 ps).map λj=>skP (ps.getD j default)))) else none
 |none=>none
def Bj:PV->Option (Res PV)
 |.dt l=>match CG (l.map (·.1)) with
  |some ps=>if ps.Nodup/\m5 ps=true/\ps.length<64 then some (.ok (.lst ((g8 ps).map λj=>skP (ps.getD j default)))) else none
  |none=>none
 |_=>none
section
variable{K:Frag}{C:Cg}
theorem Ei{F:Hp}:∀ {ns:List Int}{xs:List V},bG K F xs (ns.map PV.int)->xs=ns.map V.int
 |[],xs,r=>r.jd
 |n::ns,xs,r=>by
  obtain⟨v,ys,rfl,r1,r2⟩:=bG.dw (show bG K F xs (PV.int n::ns.map PV.int) from r);cases Rep.bC r1;rw[Ei r2];rfl
theorem X4{F:Hp}{v:V}{p:Sk}(r:Rep K F v (skP p)):∃ b,v=.ref b/\F b=some (skV p):=by
 obtain⟨b,zs,rfl,hb,rr⟩:=Rep.vy (show Rep K F v (.tup (.str p.1::p.2.map PV.int)) from r);obtain⟨v1,ys1,rfl,s1,s2⟩:=rr.dw;cases Rep.cB s1;rw[Ei s2] at hb;exact⟨b,rfl,hb⟩
theorem SQ{F:Hp}{b:Addr}{p:Sk}(h:F b=some (skV p)):Rep K F (.ref b) (skP p):=by
 refine .tup h (by simp) λj x q e1 e2=>?_
 cases j with
 |zero=>cases e1;cases e2;exact .str
 |succ j=>
  rw[Zcq,Zac] at e1 e2;cases ej:p.2[j]? with
  |none=>rw[ej] at e1;cases e1
  |some n=>rw[ej] at e1 e2;cases e1;cases e2;exact .int
theorem Jm{F:Hp}:∀ {ps:List Sk}{xs:List V},bG K F xs (ps.map skP)->∃ bs:List Addr,xs=bs.map V.ref/\bs.length=ps.length/\∀ (j:Nat) b p,bs[j]?=some b->ps[j]?=some p->F b=some (skV p)
 |[],xs,r=>⟨[],r.jd,rfl,λj b p e=>by simp at e⟩
 |p::ps,xs,r=>by
  obtain⟨v,ys,rfl,r1,r2⟩:=bG.dw (show bG K F xs (skP p::ps.map skP) from r);obtain⟨bs,rfl,h2,h3⟩:=Jm r2;obtain⟨b,rfl,hb⟩:=X4 r1;refine⟨b::bs,rfl,by simp[h2],λj b' p' e2 e3=>?_⟩
  cases j with
  |zero=>cases e2;cases e3;exact hb
  |succ j=>exact h3 j b' p' (by simpa using e2) (by simpa using e3)
theorem Nr:R1O K C (aV K) (Nm K) rO:=by
 intro F H x a res Q s ha e P;unfold rO at e;cases h:Bg a with
 |none=>rw[h] at e;cases e
 |some ps=>
  rw[h] at e;have e:(if ps.Nodup/\m5 ps=true/\ps.length<64 then some (Res.ok (PV.lst ((g8 ps).map λj=>skP (ps.getD j default)))) else none)=some res:=e;split at e
  ·rename_i hc;cases e;obtain⟨m,ok⟩:=Bh hc.2.1 hc.1;obtain⟨b,xs,rfl,h1,r1⟩:=ha;rw[Jl h] at r1;obtain⟨bs,rfl,k1,k2⟩:=Jm r1;refine⟨b,bs,ps,m,rfl,h1,k1,λj b p e1 e2=>s _ _ (k2 j b p e1 e2),ok,hc.2.2,λl hl=>P l F _ (Up.Cz s hl) hl (s.free hl) ⟨_,aN,by simp,λj x p e1 e2=>?_⟩⟩
   rw[Zac] at e1 e2;cases ej:(g8 ps)[j]? with
   |none=>rw[ej] at e1;cases e1
   |some i=>
    rw[ej] at e1 e2;cases e1;cases e2;have hi:=wk i (Zak ej);have g1:bs[i]?=some (bs.getD i 0):=by rw[Zao,Zae (by omega)];rfl
    have g2:ps[i]?=some (ps.getD i default):=by rw[Zao,Zae hi];rfl
    exact SQ (k2 i _ _ g1 g2)
  ·cases e
theorem SX:R1O K C (aD K) Nq Bj:=by
 intro F H x a res Q s ha e P
 match a,e with
 |.dt l,e=>
  obtain⟨_,ad,rfl,xs,h1,h2,h3⟩:=ha;replace e:(match CG (l.map (·.1)) with
   |some ps=>if ps.Nodup/\m5 ps=true/\ps.length<64 then some (Res.ok (PV.lst ((g8 ps).map λj=>skP (ps.getD j default)))) else none
   |none=>none)=some res:=e
  cases h:CG (l.map (·.1)) with
  |none=>rw[h] at e;cases e
  |some ps=>
   rw[h] at e;have e:(if ps.Nodup/\m5 ps=true/\ps.length<64 then some (Res.ok (PV.lst ((g8 ps).map λj=>skP (ps.getD j default)))) else none)=some res:=e;split at e
   ·rename_i hc;cases e;obtain⟨m,ok⟩:=Bh hc.2.1 hc.1;refine⟨ad,xs,ps,m,rfl,h1,by rw[h2];exact h,ok,hc.2.2,λl' bs hl hb=>P l' _ _ (Up.tups s hl) hl ?_ ⟨_,aN,by simp,λj x p e1 e2=>?_⟩⟩
    ·rw[gq]
     ·exact s.free hl
     ·rintro(z|⟨ys,z⟩)
      ·exact z
      ·rw[hl] at z;cases z
    ·rw[Zac] at e1 e2;cases ej:(g8 ps)[j]? with
     |none=>rw[ej] at e1;cases e1
     |some i=>
      rw[ej] at e1 e2;cases e1;cases e2;have:=hb i (Zak ej);exact SQ (by rw[iB (.inr ⟨_,this⟩)];exact this)
   ·cases e
end
end L2.MP
namespace L2
open PySem PySem.Spec PyProof PyProof.Rows
def Itk(a:Addr)(raw:Obj)(kvs:List (List Key×V)):It:=
 ⟨λi H=>H a=some (.frz raw (.dT kvs))/\i<kvs.length,λi H x H'=>H'=H/\∃ kv b,kvs[i]?=some kv/\x=.ref b/\H b=some (.tup (kv.1.map kV)),λi H=>H a=some (.frz raw (.dT kvs))/\i=kvs.length⟩
theorem kt_at{H:Hp}{kvs:List (List Key×V)}{xs:List (List Key×Addr×Value)}(rel:Paired (λ(p:List Key×V) (q:List Key×Addr×Value)=>p.1=q.1/\H q.2.1=some (.tup (p.1.map kV))/\RelV p.2 q.2.2) kvs xs) :
  xs.length=kvs.length/\∀ (i:Nat) kv,kvs[i]?=some kv->∃ z,xs[i]?=some z/\kv.1=z.1/\H z.2.1=some (.tup (kv.1.map kV))/\RelV kv.2 z.2.2:=by
 induction rel with
 |nil=>exact⟨rfl,λi kv q=>by simp at q⟩
 |@cons p z ps zs hp _ ih=>
  refine⟨by simp[ih.1],λi kv q=>?_⟩
  cases i with
  |zero=>simp at q;subst q;exact⟨z,rfl,hp⟩
  |succ i=>exact ih.2 i kv (by simpa using q)
theorem oJ{P:Program}{w:World}{H:Hp}{h:Heap}{a:Addr}{raw:Obj}{kvs:List (List Key×V)}(ok:HOk P w H h)(e:H a=some (.frz raw (.dT kvs))){es:Array DictEntry}{ep:Nat}(hd:raw.data=.dict es ep) :
  (a==sysModules)=false/\sU h a es ep/\es.size=kvs.length/\∀ (i:Nat) kv,kvs[i]?=some kv->∃ (b:Addr) (u:Value) (x:DictEntry),es[i]?=some x/\x.key=.ref b/\x.val=u/\H b=some (.tup (kv.1.map kV))/\RelV kv.2 u:=by
 obtain⟨hr,_,hs,xs,rel,o,es',ep',h1,h2,h3,h4,h5⟩:=(show dG P w H h a (.frz raw (.dT kvs)) from ok a _ e);rw[hr] at h1;cases h1;rw[hd] at h3;cases h3;obtain⟨ln,at_⟩:=kt_at rel;refine⟨hs,⟨raw,hr,h2,hd⟩,by rw[<-ZaR,h4,Zab,ln],λi kv q=>?_⟩
 obtain⟨z,e1,e2⟩:=at_ i kv q;refine⟨z.2.1,z.2.2,entryOfKey (tupleKind (bN P w)) z,?_,rfl,rfl,e2.2.1,e2.2.2⟩;rw[<-Zbq,h4,Zac,e1];rfl
theorem Nt{X:Cx}{H:Hp}{h:Heap}{a:Addr}{raw:Obj}{kvs:List (List Key×V)}(ok:HOk X.prog X.w H h)(e:H a=some (.frz raw (.dT kvs))):∃ es ep,raw.data=.dict es ep:=by
 obtain⟨hr,_,hs,xs,rel,o,es',ep',h1,h2,h3,h4⟩:=(show dG X.prog X.w H h a (.frz raw (.dT kvs)) from ok a _ e);rw[hr] at h1;cases h1;exact⟨_,_,h3⟩
theorem Li{P:Program}{w:World}{K:Frag}{tg:Expr}(a it:Addr)(raw:Obj)(kvs:List (List Key×V)){es:Array DictEntry}{ep:Nat}(hd:raw.data=.dict es ep) :
  Turn P w K tg (Itk a raw kvs) [it] it (λi h=>h.IsKeyIter it a i kvs.length ep) where
 mem:=by simp
 obj:=λi h st b hb=>by
  have e:b=it:=by simpa using hb
  subst e;obtain⟨o,e,c,d⟩:=st;exact⟨o,e,λv z=>by rw[d] at z;cases z⟩
 keep:=λi h h' st k=>st.at λo q=>k it (by simp) o q
 item:=by
  intro X hP hw hK hc i pins s O H E I hf st hg;subst hP hw hK;obtain⟨e,hi⟩:=hg;obtain⟨f0,f1,f2,f3,f4,f5⟩:=hf it (by simp)
  obtain⟨_,rd,hl,at_⟩:=oJ I.hok e hd;have hne:a≠it:=λz=>by subst z;rw[e] at f0;cases f0
  have W:=xP (prog:=X.prog) (w:=X.w) (A:=X.A) (I.ok.hd hc) it a hne es ep;refine W.item i s _ _ (by lia) ⟨by rw[hl];exact st,rd⟩ λv h' tk hv st' kk=>?_
  obtain⟨x,hx,rfl⟩:=hv;have I1:Inv X pins O H { s with heap:=h',toks:=tk }:=I.turned (λb o hb e=>kk b o (by simpa using hb) e) f0 f1 f3 f4 f5
  obtain⟨o,eo,cc,dd'⟩:=id st'.1;obtain⟨p,hp⟩:∃ p,kvs[i]?=some p:=⟨_,Zae hi⟩;obtain⟨b,u,y,y1,y2,y3,y4,y5⟩:=at_ i p hp;rw[hx] at y1;cases y1;refine⟨_,rfl,Dj (s:={ s with heap:=h',toks:=tk }) eo cc dd' (by decide) ⟨.ref b,H,I1,y2,⟨rfl,p,b,hp,rfl,y4⟩,by rw[<-hl];exact st'.1,λb hb=>(hf b hb).1⟩⟩
 done:=by
  intro X hP hw hK hc i pins s O H E I hf st hg;subst hP hw hK;obtain⟨e,hi⟩:=hg;obtain⟨f0,f1,f2,f3,f4,f5⟩:=hf it (by simp)
  obtain⟨_,rd,hl,at_⟩:=oJ I.hok e hd;have hne:a≠it:=λz=>by subst z;rw[e] at f0;cases f0
  have W:=xP (prog:=X.prog) (w:=X.w) (A:=X.A) (I.ok.hd hc) it a hne es ep;subst hi;refine W.done s _ _ ⟨by rw[hl];exact st,rd⟩ λh' tk kk=>⟨rfl,I.turned (λb o hb e=>kk b o (by simpa using hb) e) f0 f1 f3 f4 f5⟩
 self:=λA i s Q E st h=>wpAny_pyIter_keyiter st h
def S5(tl:TE):TI:=λO H R=>tl O H λx H1=>∃ a raw kvs,x=.ref a/\H1 a=some (.frz raw (.dT kvs))/\R (Itk a raw kvs) H1
theorem Bm{X:Cx}{tg l:Expr}{tl:TE}(hl:PE X l tl):PI X tg l (S5 tl):=by
 intro pins s O H R I h;refine thn (hl pins s O H _ I h) ?_;rintro v s1 ⟨x,H1,I1,r1,q1⟩;obtain⟨a,raw,kvs,e,ha,q⟩:=q1;subst e;cases r1;obtain⟨es,ep,hd⟩:=Nt I1.hok ha;obtain⟨hs,rd,hl,at_⟩:=oJ I1.hok ha hd;refine Ja hs rd ?_;refine⟨s1.heap.objs.size,[s1.heap.objs.size],_,_,H1,rfl,I1.kept (t':=s1.toks) λb o e=>Zaj _ e,Li a _ raw kvs hd,⟨_,Zar _ rfl,rfl,by rw[hl];rfl⟩,λb hb=>?_,q⟩
 have e:b=s1.heap.objs.size:=by simpa using hb
 subst e;exact I1.Cv (Zan _) (I1.hok.fresh (Zan _))
namespace MP
def tD(k:List Key):PV:=.tup (k.map Ik)
def uC(l:List (List Key×PV)):List PV:=l.map λkv=>tD kv.1
def ww:PV->Option (Res (List PV))
 |.dt l=>some (.ok (uC l))
 |_=>none
section
variable{K:Frag}{C:Cg}
theorem Up.Wq{F H:Hp}(s:aU F H):Up F H (vL F H λ_=>False) H:=by
 refine⟨iY s,aU.refl _,λb o q=>?_,qF s⟩;by_cases hb:False\/∃ ys,H b=some (.tup ys)
 ·rw[iB hb] at q;obtain⟨ys,z⟩:=hb.resolve_left id;rw[z] at q;cases q;exact .inr (.inr ⟨ys,rfl⟩)
 ·rw[gq hb] at q;exact .inl q
theorem Jo{F H:Hp}{b:Addr}{k:List Key}(h:H b=some (.tup (k.map kV))):Rep K (vL F H λ_=>False) (.ref b) (tD k):=by
 refine .tup (by rw[iB (.inr ⟨_,h⟩)];exact h) (by simp) λn y r c1 c2=>?_
 rw[Zac] at c1 c2;cases e:k[n]? with
 |none=>rw[e] at c1;cases c1
 |some z=>rw[e] at c1 c2;cases c1;cases c2;exact Gf
theorem xR(i:Nat):Py K C i (S5 (lJ i)) (m1 ww (mV i)):=by
 intro F H O Z R' r R hh e P;rcases bM e with⟨z,e1,rfl⟩|⟨p,e1,hk⟩
 ·unfold mV at e1;split at e1
  ·cases e1
  ·cases e1
 obtain⟨a,raw,u,ev,fa,hu⟩:=hh;have hp:Z[i]?=some (some (.sh p)):=by
  unfold mV at e1;split at e1
  ·rename_i q hq;cases e1;exact hq
  ·cases e1
 match p,hk with
 |.dt l,hk=>
  cases hk;obtain⟨v,ev',rv⟩:=R.sh i _ hp;rw[ev] at ev';cases ev';cases rv with
  |@dt _ xs _ h hl hr=>
   have hx:u=.dT xs:=by
    rcases h with h|⟨o,h⟩
    ·rw[fa] at h;cases h
    ·rw[fa] at h;cases h;rfl
   subst hx;have len:xs.length=l.length:=by have:=ZaY List.length hl;simpa using this
   refine⟨_,ev,a,raw,xs,rfl,R.rb.sub _ _ fa,P _ F H (Up.refl R.rb.sub) ⟨λF' H' s s'=>?_,λj F' H' hj s s'=>?_,λj F' H' x H'' hj s s' y=>?_⟩⟩
   ·exact⟨s' _ _ (s _ _ fa),by unfold uC;rw[Zab];exact len.symm⟩
   ·refine⟨s' _ _ (s _ _ fa),?_⟩;unfold uC at hj;rw[Zab] at hj;lia
   ·obtain⟨rfl,kv,b,hkv,rfl,hb⟩:=y;have hl2:(l.map (·.1))[j]?=some kv.1:=by rw[<-hl,Zac,hkv];rfl
    refine⟨vL F' H'' λ_=>False,tD kv.1,Up.Wq s',?_,Jo hb⟩;unfold uC;rw[Zac] at hl2 ⊢;cases q:l[j]? with
    |none=>rw[q] at hl2;cases hl2
    |some w=>
     rw[q] at hl2;show some (tD w.1)=some (tD kv.1)
     rw[show w.1=kv.1 from Zaf hl2]
end
end MP
section
variable{prog:Program}{w:World}{A:Around}{E:Value->Shared->Prop}{s:Shared}{d it:Addr}{es:Array DictEntry}{ep i:Nat}
theorem PP(hd:(d==sysModules)=false):MeetsIn prog w (Builtin.«dict.items» ⟨[.ref d],[]⟩) (λ_ R s=>s.TypeIs (.ref d) "dict"/\R (.ok (.ret (.ref s.heap.objs.size))) { s with heap:=s.heap.push { cls:=.type "dict_items",data:=.fields #[.ref d] } }):=
 .of_wp λA R s ⟨ty,h⟩=>by
  unfold Builtin.«dict.items»;refine Zaa ?_;unfold Builtin.Dict.noArgs;refine Zaa (wpAny_notOrdered_dict ty (Zah ?_));show wpAny _ _ (Builtin.Dict.showsAll d>>=_) _ _ s
  unfold Builtin.Dict.showsAll;rw[Zal (by rw[hd];exact Zbe)]
  exact Zaa (Zah (Zaa (Za0 (Zah ⟨_,rfl,h⟩))))
theorem PQ{v:Addr}{Q:Value->Shared->Prop}(hv:s.heap.IsItemsView v d)(r:sU s.heap d es ep)
  (q:Q (.ref s.heap.objs.size) { s with heap:=s.heap.push { cls:=.type "dict_itemiterator",data:=.fields #[.none,.bool false,.ref d,.int 0 0,.int es.size 0,.int ep 0,.none,.none] } }):wpAny (model prog w) A (pyIter (.ref v)) Q E s:=by
 obtain⟨ov,v1,v2,v3⟩:=id hv;obtain⟨o,e1,e2,e3⟩:=id r;refine wpAny_pyIter_slot hv.typeIs ZcF (wpAny_call_entry ZcF hv.typeIs PySem.F.entry_dict_items_iter ?_ (PySem.F.args_dict_items_iter_1 _));unfold Builtin.«dict_items.__iter__»;refine Zaa (Zah (Zaa ?_));unfold Builtin.Dict_items.dictOf;refine Zaa (wpAny_field v1 v3 (x:=.ref d) rfl (Zah (Zaa ?_)));unfold Builtin.Dict_items.newIterator;refine Zaa (wpAny_dictEntries e1 e3 (Zaa (wpAny_dictEpoch e1 e3 ?_)));simp only[show Builtin.Dict_items.ownsTuple "dict_itemiterator"=true by decide,ZbA]
 refine Za0 (Zah ⟨_,rfl,"dict_itemiterator",_,⟨_,Zar _ rfl,rfl⟩,Za6.lookup,?_⟩)
  (by simp only[sizeOk,Builtin.Dict_items.ownedTupleFields,List.size_toArray,Zas,ZaP,Zcp,sizeLine_eq];omega)
 simpa[rawInt,Builtin.Dict_items.ownedTupleFields] using q
theorem Qa{x:DictEntry}{ok ov:Value}{Q:Option Value->Shared->Prop}(hit:IsItemIter s.heap it d i es.size ep ok ov)(r:sU s.heap d es ep)(hx:es[i]?=some x)
  (q:∀ h',IsItemIterOut h' it d (i+1) es.size ep x.key x.val s.heap.objs.size->h'.get? s.heap.objs.size=some { cls:=.type "tuple",data:=.seq #[x.key,x.val] } ->
   (∀ b o,b≠it->s.heap.get? b=some o->h'.get? b=some o)->Q (some (.ref s.heap.objs.size)) { s with heap:=h' }):wpAny (model prog w) A (pyNext (.ref it)) Q E s:=by
 obtain⟨hp,g,dr,tk,os⟩:=s;obtain⟨o,e1,e2,e3⟩:=id r;have lt:i<es.size:=by
  rcases Zc3 i es.size with z|z
  ·exact z
  ·rw[Zb1 z] at hx;cases hx
 have ex:es[i]=x:=by rw[ZaL lt] at hx;exact Zaf hx
 have hT:Shared.TypeIs ⟨hp,g,dr,tk,os⟩ (.ref it) "dict_itemiterator":=⟨_,hit,rfl⟩;unfold pyNext;refine Zaa (wpAny_attempt (wpAny_callSpecial?_slot (name:=Str.ofString "__next__") hT Za6 (wpAny_call_entry Za6 hT Zch ?_ (Zcb _))));refine Zaa (Zah (Zaa (Zaa ?_)))
 first
  |refine Zaa (wpAny_typeNameOfWhole_itemiter hT (Zah ?_))
  |refine Zaa (wpAny_typeNameOf_itemiter hT (Zah ?_))
 refine Zaa (wpAny_fieldsOf hit rfl ?_);simp only[show Builtin.Dict_items.ownsTuple "dict_itemiterator"=true by decide,ZbA]
 show wpAny _ _ (if(Value.ref d==.none)=true then _ else _) _ _ _
 rw[Zal (show ¬(Value.ref d==.none)=true from Zbe)];refine Zaa (Zah (Zaa (wpAny_dictEntries e1 e3 ?_)));rw[Zal (by simp)]
 refine Zaa (Zah (Zaa (wpAny_dictEpoch e1 e3 ?_)));rw[Zal (by simp)]
 refine Zah ?_;simp only[show ¬((i:Int)<0) by omega,Zbb,ZaD,ZaL lt]
 refine Zaa ?_
 first
  |refine Zaa (wpAny_typeNameOfWhole_itemiter hT (Zah ?_))
  |refine Zaa (wpAny_typeNameOf_itemiter hT (Zah ?_))
 refine Zaa (wpAny_isOneOf_itemiter hT ?_);show wpAny _ _ (setField (.ref it) 3 (rawInt ((i:Int)+1))>>=_) _ _ ⟨hp,g,dr,tk,os⟩
 refine Zaa (wpAny_setField_rec hit (by simp) λh1 f1 s1=>?_)
 replace s1:Heap.SameBut it hp h1:=s1;replace f1:IsItemIter h1 it d (i+1) es.size ep ok ov:=by
  have e:((i+1:Nat):Int)=(i:Int)+1:=by omega
  unfold IsItemIter;rw[e];simpa[rawInt] using f1
 have hT1:Shared.TypeIs ⟨h1,g,dr,tk,os⟩ (.ref it) "dict_itemiterator":=⟨_,f1,rfl⟩;refine Zaa (wpAny_holding (Zaa (wpAny_isOneOf_itemiter hT1 (Zaa (wpAny_isOneOf_itemiter hT1 ?_)))));show wpAny _ _ (Builtin.Dict_items.pairFromOwner (.ref it) 6 es[i].key es[i].val) _ _ ⟨h1,g,dr,tk,os⟩
 rw[ex];unfold Builtin.Dict_items.pairFromOwner;refine Zaa (wpAny_newTuple ?_);have z1:h1.objs.size=hp.objs.size:=s1.1;have il:it<hp.objs.size:=Zau hit;have f2:IsItemIter (h1.push { cls:=.type "tuple",data:=.seq #[x.key,x.val] }) it d (i+1) es.size ep ok ov:=Zaj _ f1;generalize hh:h1.push { cls:=.type "tuple",data:=.seq #[x.key,x.val] }=h2 at f2
 have t2:h2.get? hp.objs.size=some { cls:=.type "tuple",data:=.seq #[x.key,x.val] }:=by rw[<-hh,<-z1];exact Zar _ rfl
 have k2:∀ b o,b≠it->hp.get? b=some o->h2.get? b=some o:=λb o hb e=>by rw[<-hh];exact Zaj _ (s1.extBut b o hb e)
 show wpAny _ _ (Builtin.Dict_items.ownedTupleIsFree (.ref it)>>=_) _ _ ⟨h2,g,dr,tk,os⟩
 rw[z1];clear hh f1 s1 hT1 z1 h1
 refine Zaa ?_;unfold Builtin.Dict_items.ownedTupleIsFree;refine Zaa (wpAny_field f2 rfl (x:=.none) rfl (Zah ?_));simp only[ZbA];refine Zaa (wpAny_field f2 rfl (x:=ok) rfl (Zaa (wpAny_field f2 rfl (x:=ov) rfl ?_)));refine Zaa (wpAny_setField_rec f2 (by simp) λh3 f3 s3=>?_)
 replace s3:Heap.SameBut it h2 h3:=s3;replace f3:IsItemIter h3 it d (i+1) es.size ep x.key ov:=f3;refine Zaa (wpAny_setField_rec f3 (by simp) λh4 f4 s4=>?_)
 replace s4:Heap.SameBut it h3 h4:=s4;replace f4:IsItemIter h4 it d (i+1) es.size ep x.key x.val:=f4;refine Zaa (wpAny_setField_rec f4 (by simp) λh5 f5 s5=>?_)
 replace s5:Heap.SameBut it h4 h5:=s5;replace f5:IsItemIterOut h5 it d (i+1) es.size ep x.key x.val hp.objs.size:=f5;refine Zaa (wpAny_setField_rec f5 (by simp) λh6 f6 s6=>?_)
 replace s6:Heap.SameBut it h5 h6:=s6;replace f6:IsItemIterOut h6 it d (i+1) es.size ep x.key x.val hp.objs.size:=f6;have old:∀ b o,b≠it->h2.get? b=some o->h6.get? b=some o:=λb o hb e=>s6.extBut b o hb (s5.extBut b o hb (s4.extBut b o hb (s3.extBut b o hb e)));exact Zaa (wpAny_letGo (Zah (Zah ⟨_,rfl,Zah (q h6 f6 (old _ _ (Zb4 il) t2) λb o hb e=>old b o hb (k2 b o hb e))⟩)))
theorem S6{ok ov:Value}{Q:Option Value->Shared->Prop}(hh:A.handled=none)(hit:IsItemIter s.heap it d es.size es.size ep ok ov)(r:sU s.heap d es ep)
  (q:∀ h',Heap.ExtBut it s.heap h'->Q none { s with heap:=h' }):wpAny (model prog w) A (pyNext (.ref it)) Q E s:=by
 obtain⟨o,e1,e2,e3⟩:=id r;have hT:s.TypeIs (.ref it) "dict_itemiterator":=⟨_,hit,rfl⟩;unfold pyNext;refine Zaa (wpAny_attempt (wpAny_callSpecial?_slot (name:=Str.ofString "__next__") hT Za6 (wpAny_call_entry Za6 hT Zch ?_ (Zcb _))));refine Zaa (Zah (Zaa (Zaa ?_)))
 first
  |refine Zaa (wpAny_typeNameOfWhole_itemiter hT (Zah ?_))
  |refine Zaa (wpAny_typeNameOf_itemiter hT (Zah ?_))
 refine Zaa (wpAny_fieldsOf hit rfl ?_);simp only[show Builtin.Dict_items.ownsTuple "dict_itemiterator"=true by decide,ZbA]
 show wpAny _ _ (if(Value.ref d==.none)=true then _ else _) _ _ _
 rw[Zal (show ¬(Value.ref d==.none)=true from Zbe)];refine Zaa (Zah (Zaa (wpAny_dictEntries e1 e3 ?_)));rw[Zal (by simp)]
 refine Zaa (Zah (Zaa (wpAny_dictEpoch e1 e3 ?_)));rw[Zal (by simp)]
 refine Zah ?_;simp only[show ¬((es.size:Int)<0) by omega,Zbb,ZaD,Zb1 (Zan _)]
 refine Zaa ?_
 first
  |refine Zaa (wpAny_typeNameOfWhole_itemiter hT (Zah ?_))
  |refine Zaa (wpAny_typeNameOf_itemiter hT (Zah ?_))
 show wpAny _ _ (setField (.ref it) 2 .none>>=_) _ _ s
 refine Zaa (wpAny_setField hit rfl (by simp) ?_)
 show wpAny _ _ (newExc (.type "StopIteration") []>>=_) _ _ _
 refine Zaa ?_;simp only[newExc,newTuple];refine Zaa (Za0 ?_ (by size_fits))
 refine Zaa (m:=firstArgMember _ _) (wpAny_of_eq (a:=Value.none) (by first|rfl|(simp only[firstArgMember];rfl)) (Za0 ?_ (by size_fits)))
 simp only[raiseNew];refine Zaa (wpAny_handled ?_);rw[show A.in1.handled=none from hh];refine Zaa (Zah (wpAny_throw ?_));refine Zaa (wpAny_isInstance (T:="StopIteration") (b:=true) ⟨_,Zar _ rfl,rfl⟩ isSubtype_stop ?_);exact Zah (q _ (((ZbK ..).extBut.push _).push _))
end
def Zj(a:Addr)(raw:Obj)(kvs:List (List Key×V)):It:=
 ⟨λi H=>H a=some (.frz raw (.dT kvs))/\i<kvs.length,λi H x H'=>∃ p kv b,H p=none/\kvs[i]?=some kv/\H b=some (.tup (kv.1.map kV))/\x=.ref p/\H'=upd H p (.tup [.ref b,kv.2]),λi H=>H a=some (.frz raw (.dT kvs))/\i=kvs.length⟩
theorem Jq{P:Program}{w:World}{K:Frag}{elts:List Expr}{x1:Nat}{pos:Pos}(a it:Addr)(raw:Obj)(kvs:List (List Key×V)){es:Array DictEntry}{ep:Nat}(hd:raw.data=.dict es ep) :
  Turn P w K (.Tuple elts x1 pos) (Zj a raw kvs) [it] it (λi h=>∃ ok ov,IsItemIter h it a i kvs.length ep ok ov) where
 mem:=by simp
 obj:=λi h st b hb=>by
  have e:b=it:=by simpa using hb
  subst e;obtain⟨ok,ov,e⟩:=st;exact⟨_,e,λv z=>by cases z⟩
 keep:=λi h h' st k=>by
  obtain⟨ok,ov,e⟩:=st;exact⟨ok,ov,k it (by simp) _ e⟩
 item:=by
  intro X hP hw hK hc i pins s O H E I hf st hg;subst hP hw hK;obtain⟨e,hi⟩:=hg;obtain⟨ok,ov,ei⟩:=st;obtain⟨f0,f1,f2,f3,f4,f5⟩:=hf it (by simp)
  obtain⟨_,rd,hl,at_⟩:=oJ I.hok e hd;obtain⟨p,hp⟩:∃ p,kvs[i]?=some p:=⟨_,Zae hi⟩;obtain⟨b,u,y,y1,y2,y3,y4,y5⟩:=at_ i p hp;refine Qa (by rw[hl];exact ei) rd y1 λh3 e3 n3 k3=>?_
  refine⟨_,rfl,wpAny_letOwnedTupleGo_items e3 λh4 e4 s4=>?_⟩;have ilt:it<s.heap.objs.size:=Zau ei;have hT2:IsPair h4 s.heap.objs.size (.ref b) u:=by rw[<-y2,<-y3];exact(s4.2 _ (Zb4 ilt)).trans n3
  refine⟨.ref s.heap.objs.size,upd H s.heap.objs.size (.tup [.ref b,p.2]),I.rE (ch:=[it]) (λb' o hb q=>?_) hf (Zan _) ⟨by show 2<=sizeLine;decide,[.ref b,u],.cons rfl (.cons y5 .nil),gb.mk hT2⟩,rfl,⟨_,p,b,I.hok.fresh (Zan _),hp,y4,rfl,rfl⟩,⟨y.key,y.val,by rw[<-hl];exact e4⟩,λb' hb=>?_⟩
  ·have q1:b'≠it:=λe=>hb (by simp[e])
   exact(s4.2 b' q1).trans (k3 b' o q1 q)
  ·have e:b'=it:=by simpa using hb
   subst e;rw[aJ (ZaE ilt)];exact f0
 done:=by
  intro X hP hw hK hc i pins s O H E I hf st hg;subst hP hw hK;obtain⟨e,hi⟩:=hg;obtain⟨ok,ov,ei⟩:=st;obtain⟨_,rd,hl,at_⟩:=oJ I.hok e hd;subst hi;refine S6 (I.ok.hd hc) (by rw[hl];exact ei) rd λh' k=>⟨rfl,?_⟩
  exact I.rD (t':=s.toks) (ch:=[it]) (λb' o hb q=>k b' o (λe=>hb (by simp[e])) q) hf
 self:=λA i s Q E st h=>by
  obtain⟨ok,ov,e⟩:=st;exact PySem.W.kcp_self e h
def Nu(tl:TE):TI:=λO H R=>tl O H λx H1=>∃ a raw kvs,x=.ref a/\H1 a=some (.frz raw (.dT kvs))/\R (Zj a raw kvs) H1
theorem Ej{X:Cx}{o:Expr}{apos cpos tpos:Pos}{elts:List Expr}{x1:Nat}{tl:TE}(hl:PE X o tl)(hbase:attributeBase o "items" X.env (eval o X.env)=eval o X.env:=by rfl)(hline:(apos.endLine==cpos.line)=true:=by rfl) :
  PI X (.Tuple elts x1 tpos) (.Call (.Attribute o "items" apos) [] [] cpos) (Nu tl):=by
 intro pins s O H R I h;refine wpAny_Call_method (T:="dict") (id:="dict.items") hbase rfl hline ZbD ZbW PySem.F.type_dict_items (thn (hl pins s O H _ I h) ?_);rintro u s1 ⟨x,H1,I1,rx,q1⟩;obtain⟨a,raw,kvs,e,ha,q⟩:=q1;subst e;obtain rfl:u=Value.ref a:=rx;obtain⟨t1,t2,_⟩:=zN I1 (.inr ⟨kvs,.inr ⟨raw,ha⟩⟩);refine⟨t1,t2,?_⟩;obtain⟨es,ep,hd⟩:=Nt I1.hok ha;obtain⟨hs,rd,hl,at_⟩:=oJ I1.hok ha hd;show wpAny _ _ (callWith cpos (.builtin "dict.items") [.ref a] [] []) _ _ s1
 refine method_meetsIn ZbW PySem.F.entry_dict_items rfl (PySem.evalArgs_none ⟨rfl,t1,ZcO _,_,PP hs,t1,?_⟩);have hsz:(s1.heap.push { cls:=.type "dict_items",data:=.fields #[.ref a] }).objs.size=s1.heap.objs.size+1:=Heap.size_push ..;refine PQ (d:=a) (es:=es) (ep:=ep) ⟨_,Zar _ rfl,rfl,rfl⟩ (rd.step λo e=>Zaj _ e) ?_;refine⟨(s1.heap.push { cls:=.type "dict_items",data:=.fields #[.ref a] }).objs.size,[(s1.heap.push { cls:=.type "dict_items",data:=.fields #[.ref a] }).objs.size],_,_,H1,rfl,I1.kept (t':=s1.toks) λb o e=>Zaj _ (Zaj _ e),Jq a _ raw kvs hd,⟨.none,.none,?_⟩,λb hb=>?_,q⟩
 ·rw[<-hl];exact Zar _ rfl
 ·have e:b=s1.heap.objs.size+1:=by simpa[hsz] using hb
  subst e;exact I1.Cv (ZbQ _) (I1.hok.fresh (ZbQ _))
namespace MP
def pH(l:List (List Key×PV)):List PV:=l.map λkv=>.tup [tD kv.1,kv.2]
def wy:PV->Option (Res (List PV))
 |.dt l=>some (.ok (pH l))
 |_=>none
section
variable{K:Frag}{C:Cg}
theorem Bo(i:Nat):Py K C i (Nu (lJ i)) (m1 wy (mV i)):=by
 intro F H O Z R' r R hh e P;rcases bM e with⟨z,e1,rfl⟩|⟨p,e1,hk⟩
 ·unfold mV at e1;split at e1
  ·cases e1
  ·cases e1
 obtain⟨a,raw,u,ev,fa,hu⟩:=hh;have hp:Z[i]?=some (some (.sh p)):=by
  unfold mV at e1;split at e1
  ·rename_i q hq;cases e1;exact hq
  ·cases e1
 match p,hk with
 |.dt l,hk=>
  cases hk;obtain⟨v,ev',rv⟩:=R.sh i _ hp;rw[ev] at ev';cases ev';cases rv with
  |@dt _ xs _ h hl hr=>
   have hx:u=.dT xs:=by
    rcases h with h|⟨o,h⟩
    ·rw[fa] at h;cases h
    ·rw[fa] at h;cases h;rfl
   subst hx;have len:xs.length=l.length:=by have:=ZaY List.length hl;simpa using this
   refine⟨_,ev,a,raw,xs,rfl,R.rb.sub _ _ fa,P _ F H (Up.refl R.rb.sub) ⟨λF' H' s s'=>?_,λj F' H' hj s s'=>?_,λj F' H' x H'' hj s s' y=>?_⟩⟩
   ·exact⟨s' _ _ (s _ _ fa),by unfold pH;rw[Zab];exact len.symm⟩
   ·refine⟨s' _ _ (s _ _ fa),?_⟩;unfold pH at hj;rw[Zab] at hj;omega
   ·obtain⟨p,kv,b,hp,hkv,hb,rfl,rfl⟩:=y;have hl2:(l.map (·.1))[j]?=some kv.1:=by rw[<-hl,Zac,hkv];rfl
    rw[Zac] at hl2;cases q:l[j]? with
    |none=>rw[q] at hl2;cases hl2
    |some w=>
     rw[q] at hl2;have ew:w.1=kv.1:=Zaf hl2;have u0:=Up.Wq s';have un:=Up.new (o:=.tup [.ref b,kv.2]) u0.fh hp;refine⟨_,.tup [tD w.1,w.2],u0.trans un,?_,.tup aN rfl λn x p' hx hp'=>?_⟩
     ·unfold pH;rw[Zac,q];rfl
     ·match n with
      |0=>simp at hx hp';subst hx hp';rw[ew];exact(Jo hb).up un.ff
      |1=>simp at hx hp';subst hx hp';exact(hr j _ _ hkv q).up (s.trans (u0.ff.trans un.ff))
      |n+2=>simp at hx
end
end MP
namespace MP
end MP
end L2
namespace L2.MP
section
variable{α:Type}{us:List α}
theorem len0(h:us.length=0):us=[]:=List.length_eq_zero_iff.mp h
theorem Vi{n:Nat}(h:us.length=n+1):∃ a vs,us=a::vs/\vs.length=n:=by
 cases us with
 |nil=>cases h
 |cons a vs=>exact⟨a,vs,rfl,Nat.succ.inj h⟩
theorem CK(h:us.length=1):∃ a,us=[a]:=by
 obtain⟨a,vs,rfl,h2⟩:=Vi h;cases len0 h2;exact⟨a,rfl⟩
theorem uD(h:us.length=2):∃ a b,us=[a,b]:=by
 obtain⟨a,vs,rfl,h2⟩:=Vi h;obtain⟨b,rfl⟩:=CK h2;exact⟨a,b,rfl⟩
theorem Jr(h:us.length=3):∃ a b c,us=[a,b,c]:=by
 obtain⟨a,vs,rfl,h2⟩:=Vi h;obtain⟨b,c,rfl⟩:=uD h2;exact⟨a,b,c,rfl⟩
theorem X5(h:us.length=4):∃ a b c d,us=[a,b,c,d]:=by
 obtain⟨a,vs,rfl,h2⟩:=Vi h;obtain⟨b,c,d,rfl⟩:=Jr h2;exact⟨a,b,c,d,rfl⟩
end
end L2.MP
namespace L2
open PySem PySem.Spec PyProof PyProof.Rows
end L2
namespace L2.MP
open PySem PySem.Spec PyProof PyProof.Rows
end L2.MP
namespace L2.SE
open PySem
def Inc(xs:Array Nat):Prop:=xs.toList.Pairwise (·<·)
theorem Inc.lt{xs:Array Nat}(h:Inc xs){i j d e:Nat}(hij:i<j)(hj:j<xs.size):xs.getD i d<xs.getD j e:=by
 have q:=ZcP.mp h i j (by rw[ZaR];omega) (by rw[ZaR];exact hj) hij
 rw[ZaN,ZaN,ZaL (by omega),ZaL hj]
 simpa using q
structure Good(b:Bool)(t:SetTable):Prop where
 led:t.led=b
 dum:t.dummies=#[]
 inc:Inc t.place
theorem Lj(b:Bool):Good b (.fresh 0 0 b):=⟨rfl,rfl,List.Pairwise.nil⟩
open PySem PySem.Spec PyProof PyProof.Rows
section
variable{prog:Program}{w:World}{K:Type}[DecidableEq K](knd:KeyKind prog w K)
def Apart(l:List (Int×Value)):Prop:=l.Pairwise λe f=>∀ k,knd.is k e.2=true->knd.is k f.2=true->False
structure Els(S:K->Bool)(es:Array (Int×Value)):Prop where
 el:ElemsOf knd es.toList
 ap:Apart knd es.toList
 mem:∀ k,S k=true↔∃ e∈es.toList,knd.is k e.2=true
def S7(h:Heap)(a:Addr)(b:Bool)(S:K->Bool)(n:Nat):Prop:=
 ∃ o es ep t,h.get? a=some o/\o.ExactSet/\o.data=.set es ep t/\Els knd S es/\es.size<scanBound/\t.fits es.size=true/\Good b t/\es.size<=n
variable{knd}{S:K->Bool}
theorem Els.perm{es es':Array (Int×Value)}(h:Els knd S es)(p:es'.toList.Perm es.toList):Els knd S es':=
 ⟨h.el.perm p,(p.symm.pairwise_iff λ{x y} q k u v=>q k v u).mp h.ap,λk=>(h.mem k).trans ⟨λ⟨e,u,v⟩=>⟨e,p.mem_iff.mpr u,v⟩,λ⟨e,u,v⟩=>⟨e,p.mem_iff.mp u,v⟩⟩⟩
theorem Els.push{es es':Array (Int×Value)}(h:Els knd S es){k:K}{x:Value}(hk:knd.is k x=true)(hx:x.scannable=true)(hn:S k=false)(p:es'.toList.Perm (es.toList++[(knd.hash k,x)])):Els knd (λk'=>S k'||decide (k'=k)) es':=by
 refine⟨(h.el.push hk hx).perm p,(p.symm.pairwise_iff λ{x y} q k u v=>q k v u).mp (Zcc.mpr ⟨h.ap,List.pairwise_singleton _ _,λe he f hf k' u v=>?_⟩),mem_push_iff hk h.mem p⟩;rw[Za2] at hf;subst hf;have e:k'=k:=knd.inj x k' k v hk;subst e;rw[(h.mem k').mpr ⟨_,he,u⟩] at hn;cases hn
end
open PySem PySem.Spec PyProof PyProof.Rows
noncomputable abbrev ZQ(b:Bool):Obj:={ cls:=.type "set",dict:=none,data:=.set #[] 0 (.fresh 0 0 b) }
section
variable{prog:Program}{w:World}{K:Type}[DecidableEq K]{knd:KeyKind prog w K}{S:K->Bool}{a:Addr}{b:Bool}{n:Nat}
theorem S7.at{h h':Heap}(x:S7 knd h a b S n)(e:∀ o,h.get? a=some o->h'.get? a=some o):S7 knd h' a b S n:=
 let⟨o,es,ep,t,ho,r⟩:=x;⟨o,es,ep,t,e o ho,r⟩
theorem S7.fresh{h:Heap}:S7 knd (h.push (ZQ b)) h.objs.size b (λ_=>false) 0:=
 ⟨_,#[],0,.fresh 0 0 b,Zar _ rfl,⟨rfl,rfl,rfl⟩,rfl,⟨λe he=>by simp at he,List.Pairwise.nil,λk=>by simp⟩,by decide,by rfl,Lj b,Zan _⟩
def seen(key:Nat->K)(i:Nat):K->Bool:=λk=>(List.range i).any λj=>decide (k=key j)
end
open PySem PySem.Spec PyProof PyProof.Rows
def S8(h:Heap)(a:Addr)(es:Array (Int×Value))(ep:Nat)(t:SetTable):Prop:=∃ o,h.get? a=some o/\o.cls=.type "set"/\o.data=.set es ep t
def It(h:Heap)(I:Addr)(f:Value)(i:Nat)(a:Addr)(n ep:Nat):Prop:=∃ o,h.get? I=some o/\o.cls=.type "set_iterator"/\o.data=.fields #[f,.int i 0,.ref a,.int n 0,.int ep 0]
theorem It.typeIs{s:Shared}{I:Addr}{f:Value}{i:Nat}{a:Addr}{n ep:Nat}(x:It s.heap I f i a n ep):s.TypeIs (.ref I) "set_iterator":=let⟨o,h,c,_⟩:=x;⟨o,h,c⟩
open PySem PySem.Spec PyProof PyProof.Rows
open PySem PySem.Spec PyProof PyProof.Rows
theorem It.at{h h':Heap}{I:Addr}{f:Value}{i:Nat}{a:Addr}{n ep:Nat}(x:It h I f i a n ep)(e:∀ o,h.get? I=some o->h'.get? I=some o):It h' I f i a n ep:=let⟨o,q,r⟩:=x;⟨o,e o q,r⟩
theorem S8.at{h h':Heap}{a:Addr}{es:Array (Int×Value)}{ep:Nat}{t:SetTable}(x:S8 h a es ep t)(e:∀ o,h.get? a=some o->h'.get? a=some o):S8 h' a es ep t:=let⟨o,q,r⟩:=x;⟨o,e o q,r⟩
def TupAt(h:Heap)(p:Addr)(xs:Array Value):Prop:=∃ o n,h.get? p=some o/\o.data=.seq xs n
theorem TupAt.at{h h':Heap}{p:Addr}{xs:Array Value}(x:TupAt h p xs)(e:∀ o,h.get? p=some o->h'.get? p=some o):TupAt h' p xs:=let⟨o,n,q,r⟩:=x;⟨o,n,e o q,r⟩
open PySem PySem.Spec PyProof PyProof.Rows
def slots(t:SetTable):Nat->Nat
 |0=>0
 |i+1=>t.place.getD i 0+1
end L2.SE
namespace L2
open PySem PySem.Spec PyProof PyProof.Rows
def dd:List Int->List Int
 |[]=>[]
 |x::l=>if x∈l then dd l else x::dd l
theorem Inv.drawn{X:Cx}{pins:List (Addr×Obj)}{O:List (Option V)}{H:Hp}{s:Shared}{d}(I:Inv X pins O H s):Inv X pins O H { s with drawn:=d }:=⟨I.ok,I.os,I.bare,I.base,I.loc,I.cell,I.free,I.freeC,I.pin,I.hok,I.len⟩
namespace MP
end MP
namespace MP
end MP
end L2
namespace L2.MP
open PySem PySem.Spec PyProof.Rows
open PySem PySem.Spec PyProof PyProof.Rows
open PySem PySem.Spec PyProof PyProof.Rows
open PySem PySem.Spec PyProof PyProof.Rows
end L2.MP
namespace L2
open PySem PySem.Spec PyProof PyProof.Rows
namespace MP
end MP
namespace MP
end MP
end L2
namespace L2.MP
open PySem PySem.Spec PyProof.Rows
section
variable{K:Frag}{C:Cg}{te:TE}{fe:Fn PV}
def S9(i:Nat)(fe:Fn PV):Sn:=λZ=>match ownAt i Z with
 |some (.lst l)=>fZ (fe Z) λp=>match p with
  |.lst r=>if l.length+r.length<=sizeLine then some (.nx (Z.set i (some (.ow (.lst (l++r)))))) else none
  |_=>none
 |_=>none
theorem X6{i:Nat}(h:MO K C te fe):MS K C (zB (tBM K "list" Mw (lJ i) (kO te xx))) (S9 i fe):=by
 intro F H O Z D o R e P;unfold S9 at e;split at e
 case h_2=>cases e
 rename_i l hl;obtain⟨a,g1,⟨xs,g2,g3⟩,g4,g5⟩:=R.ow i _ (bJ hl);refine⟨_,g1,tyL g2,?_⟩;rcases cQ e with⟨z,e1,rfl⟩|⟨p,e1,hk⟩
 ·exact h F H O Z _ _ R e1 P
 refine h F H O Z _ _ R e1 λb F1 H1 u n1 n2 ow=>?_
 match p,ow,hk with
 |.lst r,ow,hk=>
  obtain⟨zs,hb,rz⟩:=ow;have hk:(if l.length+r.length<=sizeLine then some (Out.nx (Z.set i (some (.ow (.lst (l++r)))))) else none)=some o:=hk;split at hk
  ·rename_i hlen;cases hk;obtain⟨a',k1,⟨ys,k2,k3⟩,k4,k5⟩:=(R.up u).ow i _ (bJ hl);rw[g1] at k1;cases k1;refine⟨a,b,ys,zs,rfl,rfl,k2,hb,by rw[k3.1,rz.1];exact hlen,?_⟩
   exact P F1 _ O u.ff ((R.up u).write (bJ hl) g1 ⟨_,aN,k3.append rz⟩)
  ·cases hk
end
end L2.MP
namespace MM
open PySem PySem.Spec PyProof.Rows L2 L2.MP
def Tv{α:Type}(x:Option (Res α))(Q:α->Prop):Prop:=∃ a,x=some (.ok a)/\Q a
def Out.calm:Out->Prop
 |.ex _=>False
 |_=>True
def To(x:Option Out)(Q:Out->Prop):Prop:=∃ o,x=some o/\Out.calm o/\Q o
def Lk(k:Rho->Prop)(Q:Out->Prop):Out->Prop
 |.nx Z=>k Z
 |o=>Q o
section
variable{α β γ:Type}{Q:α->Prop}{QS:Out->Prop}{k:β->Prop}{f:Fn PV}{g h:Fn PV}{Z:Rho}{a:β}{z p:PV}{i:Nat}{s t:Sn}
theorem onNx_nx{k:Rho->Prop}:Lk k QS (.nx Z)=k Z:=rfl
theorem onNx_rt{k:Rho->Prop}:Lk k QS (.rt p)=QS (.rt p):=rfl
theorem onNx_ro{k:Rho->Prop}:Lk k QS (.ro p)=QS (.ro p):=rfl
theorem onNx_rd{k:Rho->Prop}:Lk k QS (.rd p)=QS (.rd p):=rfl
theorem onNx_bk{k:Rho->Prop}:Lk k QS (.bk Z)=QS (.bk Z):=rfl
theorem onNx_ct{k:Rho->Prop}:Lk k QS (.ct Z)=QS (.ct Z):=rfl
theorem tv_some{a:α}:Tv (some (.ok a)) Q=Q a:=by
 refine propext ⟨?_,λq=>⟨a,rfl,q⟩⟩;rintro⟨r',e,q⟩;cases e;exact q
theorem to_nx:To (some (.nx Z)) QS=QS (.nx Z):=propext ⟨λ⟨_,e,_,q⟩=>by cases e;exact q,λq=>⟨_,rfl,trivial,q⟩⟩
theorem to_rt:To (some (.rt p)) QS=QS (.rt p):=propext ⟨λ⟨_,e,_,q⟩=>by cases e;exact q,λq=>⟨_,rfl,trivial,q⟩⟩
theorem to_ro:To (some (.ro p)) QS=QS (.ro p):=propext ⟨λ⟨_,e,_,q⟩=>by cases e;exact q,λq=>⟨_,rfl,trivial,q⟩⟩
theorem to_rd:To (some (.rd p)) QS=QS (.rd p):=propext ⟨λ⟨_,e,_,q⟩=>by cases e;exact q,λq=>⟨_,rfl,trivial,q⟩⟩
theorem to_bk:To (some (.bk Z)) QS=QS (.bk Z):=propext ⟨λ⟨_,e,_,q⟩=>by cases e;exact q,λq=>⟨_,rfl,trivial,q⟩⟩
theorem to_ct:To (some (.ct Z)) QS=QS (.ct Z):=propext ⟨λ⟨_,e,_,q⟩=>by cases e;exact q,λq=>⟨_,rfl,trivial,q⟩⟩
theorem tv_bnd{x:Option (Res β)}{kk:β->Option (Res α)}:Tv (bnd x kk) Q=Tv x (λb=>Tv (kk b) Q):=by
 refine propext ⟨?_,?_⟩
 ·rintro⟨r,e,q⟩;rcases bM e with⟨z,e1,e2⟩|⟨b,e1,e2⟩
  ·cases e2
  ·exact⟨_,e1,r,e2,q⟩
 ·rintro⟨b,e,q⟩;subst e;exact q
theorem to_bnd{x:Option (Res β)}{kk:β->Option Out}:To (fZ x kk) QS=Tv x (λb=>To (kk b) QS):=by
 refine propext ⟨?_,?_⟩
 ·rintro⟨r,e,c,q⟩;rcases cQ e with⟨z,e1,rfl⟩|⟨b,e1,e2⟩
  ·exact c.elim
  ·exact⟨_,e1,r,e2,c,q⟩
 ·rintro⟨b,e,q⟩;subst e;exact q
theorem to_seq:To (aY s t Z) QS=To (s Z) (Lk (λZ'=>To (t Z') QS) QS):=by
 refine propext ⟨?_,?_⟩
 ·rintro⟨r,e,c,q⟩;unfold aY at e;split at e
  ·rename_i Z' h;exact⟨_,h,trivial,r,e,c,q⟩
  ·rename_i x hx;refine⟨r,e,c,?_⟩;cases r with
   |nx Z'=>exact absurd e (hx Z')
   |_=>exact q
 ·rintro⟨o,e,c,q⟩;unfold aY To;rw[e];cases o with
  |nx Z'=>exact q
  |_=>exact⟨_,rfl,c,q⟩
theorem rP:Tv (none:Option (Res α)) Q=False:=propext ⟨λ⟨_,e,_⟩=>(nomatch e),λh=>h.elim⟩
theorem Gi:To none QS=False:=propext ⟨λ⟨_,e,_⟩=>(nomatch e),λh=>h.elim⟩
theorem tv_m2{op:β->γ->Option (Res α)}{f:Fn β}{g:Fn γ}:Tv (m2 op f g Z) Q=Tv (f Z) (λa=>Tv (g Z) (λb=>Tv (op a b) Q)):=by
 unfold m2;simp only[tv_bnd]
theorem tv_m1{op:β->Option (Res α)}{f:Fn β}:Tv (m1 op f Z) Q=Tv (f Z) (λa=>Tv (op a) Q):=by unfold m1;rw[tv_bnd]
theorem tv_var{Q:PV->Prop}:Tv (mV i Z) Q=∃ p,Z[i]?=some (some (.sh p))/\Q p:=by
 refine propext ⟨?_,λ⟨p,e,q⟩=>⟨_,by unfold mV;rw[e],q⟩⟩
 rintro⟨r,e,q⟩;unfold mV at e;split at e
 ·rename_i p hp;cases e;exact⟨_,hp,q⟩
 ·cases e
theorem tv_lend{Q:PV->Prop}:Tv (mVL i Z) Q=∃ s,Z[i]?=some (some s)/\(match s with|.sh p=>Q p|.ow p=>Q p|.dp _=>False):=by
 refine propext ⟨?_,?_⟩
 ·rintro⟨r,e,q⟩;unfold mVL at e;split at e
  ·rename_i p hp;cases e;exact⟨_,hp,q⟩
  ·rename_i p hp;cases e;exact⟨_,hp,q⟩
  ·cases e
 ·rintro⟨s,e,q⟩;cases s with
  |sh p=>exact⟨_,by unfold mVL;rw[e],q⟩
  |ow p=>exact⟨_,by unfold mVL;rw[e],q⟩
  |dp p=>exact q.elim
theorem tv_c{Q:PV->Prop}:Tv (mC p Z) Q=Q p:=tv_some
theorem tv_view{Q:List PV->Prop}:Tv (oE f Z) Q=Tv (f Z) (λa=>Tv (yw a) Q):=tv_bnd
theorem tv_viewN{Q:List PV->Prop}:Tv (nO i Z) Q=Tv (mVL i Z) (λa=>Tv (yw a) Q):=tv_bnd
theorem tv_asLst{l:List PV}{Q:List PV->Prop}:Tv (yw (.lst l)) Q=Q l:=tv_some
theorem tv_nil{Q:List PV->Prop}:Tv (bf Z) Q=Q []:=tv_some
theorem tv_cons{g:Fn (List PV)}{Q:List PV->Prop}:Tv (az f g Z) Q=Tv (f Z) (λa=>Tv (g Z) (λl=>Q (a::l))):=by
 unfold az;simp only[tv_bnd,tv_some]
theorem cA{c:Prop}[Decidable c]{a:α}:Tv (if c then some (.ok a) else none) Q=(c/\Q a):=by
 by_cases h:c
 ·rw[Zam h,tv_some];simp[h]
 ·rw[Zal h,rP];simp[h]
theorem tv_tup{f:Fn (List PV)}{Q:PV->Prop}:Tv (nH f Z) Q=Tv (f Z) (λl=>l.length<=sizeLine/\Q (.tup l)):=by
 unfold nH;simp only[tv_bnd,cA]
theorem tv_lst{f:Fn (List PV)}{Q:PV->Prop}:Tv (zR f Z) Q=Tv (f Z) (λl=>l.length<=sizeLine/\Q (.lst l)):=by
 unfold zR;simp only[tv_bnd,cA]
theorem tv_call{m:List PV->Option (Res PV)}{f:Fn (List PV)}{Q:PV->Prop}:Tv (bF m f Z) Q=Tv (f Z) (λl=>Tv (m l) Q):=tv_bnd
theorem tv_ite{c:Prop}[Decidable c]{x y:Option (Res α)}:Tv (if c then x else y) Q=if c then Tv x Q else Tv y Q:=by split<;>rfl
theorem to_ite{c:Prop}[Decidable c]{x y:Option Out}:To (if c then x else y) QS=if c then To x QS else To y QS:=by split<;>rfl
theorem tv_mIf{c:Fn Bool}{f g:Fn α}:Tv (mIf c f g Z) Q=Tv (c Z) (λb=>if b=true then Tv (f Z) Q else Tv (g Z) Q):=by
 unfold mIf;simp only[tv_bnd,tv_ite]
theorem tv_mAnd{c d:Fn Bool}{Q:Bool->Prop}:Tv (Pb c d Z) Q=Tv (c Z) (λb=>if b=true then Tv (d Z) Q else Q false):=by
 unfold Pb;simp only[tv_bnd,tv_ite,tv_some]
theorem tv_mOr{c d:Fn Bool}{Q:Bool->Prop}:Tv (mOr c d Z) Q=Tv (c Z) (λb=>if b=true then Q true else Tv (d Z) Q):=by
 unfold mOr;simp only[tv_bnd,tv_ite,tv_some]
theorem tv_mNot{c:Fn Bool}{Q:Bool->Prop}:Tv (HR c Z) Q=Tv (c Z) (λb=>Q (!b)):=by
 unfold HR;simp only[tv_bnd,tv_some]
theorem tv_and{Q:PV->Prop}:Tv (zP f g Z) Q=Tv (f Z) (λa=>∃ b,a=.bl b/\if b=true then Tv (g Z) Q else Q (.bl false)):=by
 unfold zP;rw[tv_bnd];congr 1;funext a
 refine propext ⟨?_,?_⟩
 ·rintro⟨r,e,q⟩;split at e
  ·exact⟨true,rfl,by rw[Zam rfl];exact⟨r,e,q⟩⟩
  ·cases e;exact⟨false,rfl,by rw[Zal (by decide)];exact q⟩
  ·cases e
 ·rintro⟨b,e,q⟩;subst e;cases b with
  |true=>rw[Zam rfl] at q;exact q
  |false=>rw[Zal (by decide)] at q;exact⟨_,rfl,q⟩
theorem tv_chain{o1 o2:PV->PV->Option (Res PV)}{Q:PV->Prop}:Tv (Fo o1 o2 f g h Z) Q=Tv (f Z) (λa=>Tv (g Z) (λb=>Tv (o1 a b) (λz=>∃ t,z=.bl t/\if t=true then Tv (h Z) (λc=>Tv (o2 b c) Q) else Q (.bl false)))):=by
 unfold Fo;simp only[tv_bnd];congr 1;funext a
 congr 1;funext b
 congr 1;funext c
 refine propext ⟨?_,?_⟩
 ·rintro⟨r,e,q⟩;split at e
  ·refine⟨true,rfl,?_⟩;rw[Zam rfl,<-tv_bnd];exact⟨r,e,q⟩
  ·cases e;exact⟨false,rfl,by rw[Zal (by decide)];exact q⟩
  ·cases e
 ·rintro⟨t,e,q⟩;subst e;cases t with
  |true=>rw[Zam rfl,<-tv_bnd] at q;exact q
  |false=>rw[Zal (by decide)] at q;exact⟨_,rfl,q⟩
theorem tv_comp{it:Fn (List PV)}{fr:List (Option Nat)}{tg:PV->Rho->Option Rho}{tst:Fn Bool}{el:Fn PV}{Q:PV->Prop}:Tv (gQ it fr tg tst el Z) Q=Tv (it Z) (λl=>l.length<=sizeLine/\Tv (fM tg tst el (frR fr Z) l) (λr=>Q (.lst r))):=by
 unfold gQ;rw[tv_bnd];congr 1;funext l
 by_cases hl:l.length<=sizeLine
 ·rw[Zam hl,tv_bnd];simp only[tv_some,hl,true_and]
 ·rw[Zal hl,rP];simp[hl]
theorem to_next:To (gh Z) QS=QS (.nx Z):=to_nx
theorem to_cont:To (MF Z) QS=QS (.ct Z):=to_ct
theorem to_ret:To (gj f Z) QS=Tv (f Z) (λp=>QS (.rt p)):=by unfold gj;simp only[to_bnd,to_rt]
theorem to_retO:To (vB f Z) QS=Tv (f Z) (λp=>QS (.ro p)):=by unfold vB;simp only[to_bnd,to_ro]
theorem to_setO:To (jg i f Z) QS=Tv (f Z) (λp=>QS (.nx (Z.set i (some (.ow p))))):=by unfold jg;simp only[to_bnd,to_nx]
theorem to_asg{tg:PV->Rho->Option Rho}:To (cu f tg Z) QS=Tv (f Z) (λp=>∃ Z',tg p Z=some Z'/\QS (.nx Z')):=by
 unfold cu;rw[to_bnd];congr 1;funext a
 cases e:tg a Z with
 |none=>rw[Gi];exact propext ⟨λh=>h.elim,λ⟨_,z,_⟩=>nomatch z⟩
 |some Z'=>rw[to_nx];exact propext ⟨λq=>⟨Z',rfl,q⟩,λ⟨_,z,q⟩=>by cases z;exact q⟩
theorem to_asgN:To (cu f (gN i) Z) QS=Tv (f Z) (λp=>QS (.nx (Z.set i (some (.sh p))))):=by
 rw[to_asg];congr 1;funext a
 exact propext ⟨λ⟨Z',e,q⟩=>by cases e;exact q,λq=>⟨_,rfl,q⟩⟩
theorem to_if{c:Fn Bool}:To (j9 c s t Z) QS=Tv (c Z) (λb=>if b=true then To (s Z) QS else To (t Z) QS):=by
 unfold j9;simp only[to_bnd,to_ite]
theorem to_for{it:Fn (List PV)}{tg:PV->Rho->Option Rho}:To (oA it tg s Z) QS=Tv (it Z) (λl=>To (loop tg s l Z) QS):=to_bnd
theorem to_retOw:To (lY i Z) QS=∃ p,Z[i]?=some (some (.ow p))/\QS (.ro p):=by
 refine propext ⟨?_,λ⟨p,e,q⟩=>⟨.ro p,by unfold lY ownAt;rw[e],trivial,q⟩⟩
 rintro⟨r,e,c,q⟩;unfold lY at e;split at e
 ·rename_i p hp;cases e;exact⟨p,bJ hp,q⟩
 ·cases e
theorem to_app:To (Fq i f Z) QS=∃ l,Z[i]?=some (some (.ow (.lst l)))/\Tv (f Z) (λp=>l.length<sizeLine/\QS (.nx (Z.set i (some (.ow (.lst (l++[p]))))))):=by
 refine propext ⟨?_,?_⟩
 ·rintro⟨r,e,c,q⟩;unfold Fq at e;split at e
  ·rename_i l hl;refine⟨l,bJ hl,?_⟩;rcases cQ e with⟨z,e1,rfl⟩|⟨p,e1,e2⟩
   ·exact c.elim
   ·split at e2
    ·rename_i hlen;cases e2;exact⟨_,e1,hlen,q⟩
    ·cases e2
  ·cases e
 ·rintro⟨l,e,p,e1,h,q⟩;have eo:ownAt i Z=some (.lst l):=by unfold ownAt;rw[e]
  unfold To Fq;rw[eo];exact⟨.nx _,by simp only[e1,fZ];exact Zam h,trivial,q⟩
theorem nQ{c:Int->Int->Bool}{F:Int->Int->PV}{x y:Int}{Q:PV->Prop}:Tv (MP.opI c F (.int x) (.int y)) Q=(c x y=true/\Q (F x y)):=cA
theorem tv_sub{x y:Int}{Q:PV->Prop}:Tv (sX (.int x) (.int y)) Q=Q (.int (x-y)):=by unfold sX;rw[nQ];simp[cT]
theorem tv_and'{x y:Int}{Q:PV->Prop}:Tv (pW (.int x) (.int y)) Q=Q (.int (Builtin.bitAnd x y)):=by unfold pW;rw[nQ];simp[cT]
theorem tv_or'{x y:Int}{Q:PV->Prop}:Tv (Rr (.int x) (.int y)) Q=Q (.int (Builtin.bitOr x y)):=by unfold Rr;rw[nQ];simp[cT]
theorem tv_gt{x y:Int}{Q:PV->Prop}:Tv (K5 (.int x) (.int y)) Q=Q (.bl (decide (y<x))):=by unfold K5;rw[nQ];simp[cT]
theorem tv_ge{x y:Int}{Q:PV->Prop}:Tv (U0 (.int x) (.int y)) Q=Q (.bl (decide (y<=x))):=by unfold U0;rw[nQ];simp[cT]
theorem tv_div{x y:Int}{Q:PV->Prop}:Tv (zU (.int x) (.int y)) Q=((0<y/\y<1073741824)/\Q (.int (x/y))):=by unfold zU;rw[nQ];simp[Xp]
theorem tv_mod{x y:Int}{Q:PV->Prop}:Tv (gP (.int x) (.int y)) Q=(0<y/\Q (.int (x%y))):=by unfold gP;rw[nQ];simp[Y0]
theorem tv_pow{x y:Int}{Q:PV->Prop}:Tv (M3 (.int x) (.int y)) Q=((0<=y/\y<=1000000/\x.natAbs<2^64)/\Q (.int (x^y.toNat))):=by unfold M3;rw[nQ];simp[Rq]
theorem tv_shl{x y:Int}{Q:PV->Prop}:Tv (yx (.int x) (.int y)) Q=((0<=y/\y<=1000000/\x.natAbs<2^64)/\Q (.int (x*2^y.toNat))):=by unfold yx;rw[nQ];simp[Rq]
theorem tv_shr{x y:Int}{Q:PV->Prop}:Tv (HY (.int x) (.int y)) Q=(0<=y/\Q (.int (x/2^y.toNat))):=by unfold HY;rw[nQ];simp[Y4]
theorem tv_add{x y:Int}{Q:PV->Prop}:Tv (dO (.int x) (.int y)) Q=Q (.int (x+y)):=tv_some
theorem tv_addS{x y:Str}{Q:PV->Prop}:Tv (dO (.str x) (.str y)) Q=(x.length+y.length<=sizeLine/\Q (.str (x++y))):=cA
theorem tv_addT{x y:List PV}{Q:PV->Prop}:Tv (dO (.tup x) (.tup y)) Q=((x≠[]/\x.length+y.length<=sizeLine)/\Q (.tup (x++y))):=cA
theorem tv_mul{x y:Int}{Q:PV->Prop}:Tv (iT (.int x) (.int y)) Q=(Kw x y/\Q (.int (x*y))):=by
 show Tv (if Rp x y=true then _ else none) Q=_
 rw[cA];unfold Rp Kw;simp
theorem tv_mulS{z:Str}{n:Int}{Q:PV->Prop}:Tv (iT (.str z) (.int n)) Q=((-(2^63)<=n/\n<2^63/\z.length*n.toNat<=sizeLine)/\Q (.str (Xq z n.toNat))):=cA
theorem tv_lt{x y:Int}{Q:PV->Prop}:Tv (zV (.int x) (.int y)) Q=Q (.bl (decide (x<y))):=tv_some
theorem tv_ltS{x y:Str}{Q:PV->Prop}:Tv (zV (.str x) (.str y)) Q=Q (.bl (decide (x.cps.toList<y.cps.toList))):=tv_some
theorem tv_le{x y:Int}{Q:PV->Prop}:Tv (Pn (.int x) (.int y)) Q=Q (.bl (decide (x<=y))):=tv_some
theorem tv_leS{x y:Str}{Q:PV->Prop}:Tv (Pn (.str x) (.str y)) Q=Q (.bl (!(decide (y.cps.toList<x.cps.toList)))):=tv_some
theorem tv_eq{p q:PV}{Q:PV->Prop}:Tv (ph p q) Q=∃ r,eqF 32 p q=some r/\Q (.bl r):=by
 refine propext ⟨?_,λ⟨r,e,k⟩=>⟨_,by unfold ph;rw[e],k⟩⟩
 rintro⟨r,e,k⟩;unfold ph at e;split at e
 ·rename_i b hb;cases e;exact⟨b,hb,k⟩
 ·cases e
theorem tv_ne{p q:PV}{Q:PV->Prop}:Tv (uq p q) Q=∃ r,eqF 32 p q=some r/\Q (.bl (!r)):=by
 refine propext ⟨?_,λ⟨r,e,k⟩=>⟨_,by unfold uq;rw[e],k⟩⟩
 rintro⟨r,e,k⟩;unfold uq at e;split at e
 ·rename_i b hb;cases e;exact⟨b,hb,k⟩
 ·cases e
theorem eqF_int(n:Nat)(i j:Int):eqF n (.int i) (.int j)=some (decide (i=j)):=by cases n<;>rfl
theorem eqF_str(n:Nat)(i j:Str):eqF n (.str i) (.str j)=some (decide (i=j)):=by cases n<;>rfl
theorem eqF_bl(n:Nat)(i j:Bool):eqF n (.bl i) (.bl j)=some (decide (i=j)):=by cases n<;>rfl
theorem tv_eqI{x y:Int}{Q:PV->Prop}:Tv (ph (.int x) (.int y)) Q=Q (.bl (decide (x=y))):=by rw[tv_eq,eqF_int];simp
theorem tv_eqS{x y:Str}{Q:PV->Prop}:Tv (ph (.str x) (.str y)) Q=Q (.bl (decide (x=y))):=by rw[tv_eq,eqF_str];simp
theorem tv_neI{x y:Int}{Q:PV->Prop}:Tv (uq (.int x) (.int y)) Q=Q (.bl (!decide (x=y))):=by rw[tv_ne,eqF_int];simp
theorem tv_neS{x y:Str}{Q:PV->Prop}:Tv (uq (.str x) (.str y)) Q=Q (.bl (!decide (x=y))):=by rw[tv_ne,eqF_str];simp
theorem tv_notin{p q:PV}{Q:PV->Prop}:Tv (mW p q) Q=∃ r,inU p q=some r/\Q (.bl (!r)):=by
 refine propext ⟨?_,λ⟨r,e,k⟩=>⟨_,by unfold mW;rw[e],k⟩⟩
 rintro⟨r,e,k⟩;unfold mW at e;split at e
 ·rename_i b hb;cases e;exact⟨b,hb,k⟩
 ·cases e
theorem tv_isN{p:PV}{Q:PV->Prop}:Tv (Rt p .non) Q=Q (.bl p.qz):=tv_some
theorem tv_notN{p:PV}{Q:PV->Prop}:Tv (Fz p .non) Q=Q (.bl (!p.qz)):=tv_some
theorem Gj{x:Option PV}{Q:PV->Prop}:Tv (ofO x) Q=∃ p,x=some p/\Q p:=by
 refine propext ⟨?_,λ⟨p,e,k⟩=>⟨_,by subst e;rfl,k⟩⟩
 rintro⟨r,e,k⟩;obtain⟨p,e1,e2⟩:=vD e;cases e2;exact⟨_,e1,k⟩
theorem tv_ixL{l:List PV}{n:Int}{Q:PV->Prop}:Tv (bU (.lst l) (.int n)) Q=∃ p,atI l n=some p/\Q p:=Gj
theorem tv_ixT{l:List PV}{n:Int}{Q:PV->Prop}:Tv (bU (.tup l) (.int n)) Q=∃ p,atI l n=some p/\Q p:=Gj
theorem tv_ixV{l:List PV}{n:Int}{Q:PV->Prop}:Tv (DG l (.int n)) Q=∃ p,atI l n=some p/\Q p:=Gj
theorem tv_ixS{z:Str}{n:Int}{Q:PV->Prop}:Tv (bU (.str z) (.int n)) Q=(z.length<=sizeLine/\∃ c,atI z.cps.toList n=some c/\Q (.str ⟨#[c]⟩)):=by
 show Tv (if z.length<=sizeLine then _ else none) Q=_
 by_cases hz:z.length<=sizeLine
 ·rw[Zam hz,Gj];simp only[hz,true_and];refine propext ⟨?_,λ⟨c,e,k⟩=>⟨_,by rw[e];rfl,k⟩⟩
  rintro⟨p,e,k⟩;cases e1:atI z.cps.toList n with
  |none=>rw[e1] at e;cases e
  |some c=>rw[e1] at e;cases e;exact⟨c,rfl,k⟩
 ·rw[Zal hz];exact propext ⟨λ⟨r,e,q⟩=>(nomatch e),λ⟨z,_⟩=>absurd z hz⟩
theorem tv_lenS{z:Str}{Q:PV->Prop}:Tv (iW (.str z)) Q=(z.length<=sizeLine/\Q (.int z.length)):=cA
theorem tv_lenL{l:List PV}{Q:PV->Prop}:Tv (iW (.lst l)) Q=Q (.int l.length):=tv_some
theorem tv_lenT{l:List PV}{Q:PV->Prop}:Tv (iW (.tup l)) Q=Q (.int l.length):=tv_some
theorem tv_is{T:String}{Q:PV->Prop}:Tv (FW p (.ty T)) Q=∃ b,isI p T=some b/\Q (.bl b):=by
 refine propext ⟨?_,λ⟨r,e,k⟩=>⟨_,by unfold FW;simp only[e],k⟩⟩
 rintro⟨r,e,k⟩;unfold FW at e;simp only at e;split at e
 ·rename_i b hb;cases e;exact⟨b,hb,k⟩
 ·cases e
theorem tv_asBl{b:Bool}{Q:Bool->Prop}:Tv (cY (.bl b)) Q=Q b:=tv_some
theorem tv_not{b:Bool}{Q:PV->Prop}:Tv (Ri (.bl b)) Q=Q (.bl (!b)):=tv_some
theorem tv_list{l:List PV}{Q:PV->Prop}:Tv (FZ l) Q=Q (.lst l):=tv_some
theorem tv_cat{l m:List PV}{Q:PV->Prop}:Tv (DK l m) Q=(l.length+m.length<=sizeLine/\Q (.lst (l++m))):=cA
theorem tv_asSeqL{l:List PV}{Q:List PV->Prop}:Tv (kY (.lst l)) Q=Q l:=tv_some
theorem tv_asSeqT{l:List PV}{Q:List PV->Prop}:Tv (kY (.tup l)) Q=Q l:=tv_some
theorem tv_asSeqS{z:Str}{Q:List PV->Prop}:Tv (kY (.str z)) Q=Q (signs z):=tv_some
theorem tv_rng1{j:Int}{Q:List PV->Prop}:Tv (nJ [.int j]) Q=((-(2^62)<=j/\j<2^62)/\Q (pq 0 j.toNat)):=cA
theorem tv_rng2{x y:Int}{Q:List PV->Prop}:Tv (FQ [.int x,.int y]) Q=((-(2^62)<=x/\x<2^62/\-(2^62)<=y/\y<2^62)/\Q (pq x (y-x).toNat)):=cA
theorem tv_enum{l:List PV}{Q:List PV->Prop}:Tv (zY [.lst l]) Q=Q (pX l):=tv_some
theorem tv_pn{Q:Option Int->Prop}:Tv (mPn Z) Q=Q none:=tv_some
theorem tv_asInt{x:Int}{Q:Option Int->Prop}:Tv (asInt (.int x)) Q=Q (some x):=tv_some
theorem tv_slL{f:Fn (List PV)}{lo hi:Fn (Option Int)}{Q:PV->Prop}:Tv (Rw f lo hi Z) Q=Tv (f Z) (λl=>Tv (lo Z) (λa=>Tv (hi Z) (λb=>Q (.lst (ur l a b))))):=by
 unfold Rw;simp only[tv_bnd,tv_some]
theorem tv_opSlT{l:List PV}{a b:Option Int}{Q:PV->Prop}:Tv (Ry a b (.tup l)) Q=(¬(HT.sIx l.length 0 a=0/\HT.sIx l.length l.length b=l.length)/\Q (.tup (ur l a b))):=cA
theorem tv_slT{lo hi:Fn (Option Int)}{Q:PV->Prop}:Tv (Rz f lo hi Z) Q=Tv (f Z) (λz=>Tv (lo Z) (λa=>Tv (hi Z) (λb=>Tv (Ry a b z) Q))):=by
 unfold Rz;simp only[tv_bnd]
theorem tv_all{l:List PV}{Q:PV->Prop}:Tv (DN l) Q=∃ bs,rG l=some bs/\Q (.bl (bs.all id)):=by
 refine propext ⟨?_,λ⟨r,e,k⟩=>⟨_,by unfold DN;rw[e],k⟩⟩
 rintro⟨r,e,k⟩;unfold DN at e;split at e
 ·rename_i b hb;cases e;exact⟨b,hb,k⟩
 ·cases e
end
section
variable{QS:Out->Prop}{Z:Rho}{j:Nat}
theorem finIO_nx{p:PV}:(Zd j (some (.nx Z))=some (.ok p))=(Z[j]?=some (some (.ow p))):=by
 show((match ownAt j Z with|some p=>some (Res.ok p)|none=>none)=some (.ok p))=_
 cases h:ownAt j Z with
 |none=>exact propext ⟨λe=>(nomatch e),λe=>by unfold ownAt at h;rw[e] at h;cases h⟩
 |some q=>exact propext ⟨λe=>by cases e;exact bJ h,λe=>by rw[bJ h] at e;cases e;rfl⟩
theorem to_never:To (K6 Z) QS=False:=Gi
end
def turn(I:Rho->Prop)(QS:Out->Prop):Out->Prop
 |.nx Z=>I Z
 |.ct Z=>I Z
 |.bk Z=>QS (.nx Z)
 |o=>QS o
theorem turn_nx{I:Rho->Prop}{QS:Out->Prop}{Z:Rho}:turn I QS (.nx Z)=I Z:=rfl
theorem turn_ct{I:Rho->Prop}{QS:Out->Prop}{Z:Rho}:turn I QS (.ct Z)=I Z:=rfl
theorem turn_bk{I:Rho->Prop}{QS:Out->Prop}{Z:Rho}:turn I QS (.bk Z)=QS (.nx Z):=rfl
theorem turn_rt{I:Rho->Prop}{QS:Out->Prop}{p:PV}:turn I QS (.rt p)=QS (.rt p):=rfl
theorem turn_ro{I:Rho->Prop}{QS:Out->Prop}{p:PV}:turn I QS (.ro p)=QS (.ro p):=rfl
theorem turn_rd{I:Rho->Prop}{QS:Out->Prop}{p:PV}:turn I QS (.rd p)=QS (.rd p):=rfl
theorem Nv{tg:PV->Rho->Option Rho}{body:Sn}{QS:Out->Prop}(I:Nat->Rho->Prop):∀ {l:List PV}{Z:Rho},I 0 Z ->
  (∀ (i:Nat) x Z,l[i]?=some x->I i Z->∃ Z1,tg x Z=some Z1/\To (body Z1) (turn (I (i+1)) QS)) ->
  (∀ Z',I l.length Z'->QS (.nx Z'))->To (loop tg body l Z) QS:=by
 intro l;induction l generalizing I with
 |nil=>exact λh0 _ hd=>⟨_,rfl,trivial,hd _ h0⟩
 |cons x xs ih=>
  intro Z h0 hs hd;obtain⟨Z1,e1,o,e2,c,q⟩:=hs 0 x Z rfl h0;unfold To;rw[loop,e1];simp only[e2];cases o with
  |nx Z2=>exact ih (λi=>I (i+1)) q (λi y Z e=>hs (i+1) y Z (by simpa using e)) hd
  |ct Z2=>exact ih (λi=>I (i+1)) q (λi y Z e=>hs (i+1) y Z (by simpa using e)) hd
  |bk Z2=>exact⟨_,rfl,trivial,q⟩
  |rt p=>exact⟨_,rfl,trivial,q⟩
  |ro p=>exact⟨_,rfl,trivial,q⟩
  |rd p=>exact⟨_,rfl,trivial,q⟩
  |ex z=>exact c.elim
theorem Js{x:Option Out}{I:Rho->Prop}{Q:Out->Prop}(h:∀ QS:Out->Prop,(∀ Z,I Z->QS (.nx Z))->To x QS):To x (turn I Q):=h _ λ_ h=>h
theorem Ws{x:Option Out}{I:Rho->Prop}{Q:Out->Prop}(h:∀ QS:Out->Prop,(∀ Z,I Z->QS (.nx Z))->(∀ Z,I Z->QS (.ct Z))->(∀ p,Q (.rt p)->QS (.rt p))->(∀ p,Q (.ro p)->QS (.ro p))->(∀ p,Q (.rd p)->QS (.rd p))->To x QS):To x (turn I Q):=h _ (λ_ h=>h) (λ_ h=>h) (λ_ h=>h) (λ_ h=>h) λ_ h=>h
theorem Ny{x:Option Out}{Q:Out->Prop}(h:∀ QS:Out->Prop,(∀ o,Q o->QS o)->To x QS):To x Q:=h _ λ_ h=>h
theorem dJ{j:Nat}{body:Sn}{QS:Out->Prop}(I:Nat->Rho->Prop){l:List PV}{Z:Rho}(h0:I 0 Z)
  (hs:∀ (i:Nat) x Z,l[i]?=some x->I i Z->To (body (Z.set j (some (.sh x)))) (turn (I (i+1)) QS))(hd:∀ Z',I l.length Z'->QS (.nx Z')):To (loop (gN j) body l Z) QS:=
 Nv I h0 (λi x Z e hI=>⟨_,rfl,hs i x Z e hI⟩) hd
theorem Jt{a b:Nat}{body:Sn}{QS:Out->Prop}(I:Nat->Rho->Prop){l:List PV}{Z:Rho}(h0:I 0 Z)
  (hs:∀ (i:Nat) x Z,l[i]?=some x->I i Z->To (body ((Z.set a (some (.sh (.int i)))).set b (some (.sh x)))) (turn (I (i+1)) QS))(hd:∀ Z',I l.length Z'->QS (.nx Z')):To (loop (gT 2 (gsCons (gN a) (gsCons (gN b) gsNil))) body (pX l) Z) QS:=by
 have hl:(pX l).length=l.length:=by simp[pX]
 refine Nv I h0 (λi x Z e hI=>?_) λZ'=>by rw[hl];exact hd Z'
 unfold pX at e;rw[Zca] at e;cases h:l[i]? with
 |none=>rw[h] at e;cases e
 |some y=>
  rw[h] at e;cases e;exact⟨_,rfl,hs i y Z h hI⟩
theorem my{fc:Fn Bool}{body:Sn}{QS:Out->Prop}(I:Nat->Rho->Prop):∀ {n:Nat}{Z:Rho},I n Z ->
  (∀ (n:Nat) Z,I n Z->Tv (fc Z) (λb=>if b=true then 0<n/\To (body Z) (turn (I (n-1)) QS) else QS (.nx Z)))->To (kW fc body (n+1) Z) QS:=by
 intro n;induction n with
 |zero=>
  intro Z h0 hs;rw[kW,to_bnd];obtain⟨b,e,q⟩:=hs 0 Z h0;refine⟨b,e,?_⟩;cases b with
  |true=>exact absurd q.1 (ZbU _)
  |false=>exact⟨_,rfl,trivial,q⟩
 |succ n ih=>
  intro Z h0 hs;rw[kW,to_bnd];obtain⟨b,e,q⟩:=hs (n+1) Z h0;refine⟨b,e,?_⟩;cases b with
  |false=>exact⟨_,rfl,trivial,q⟩
  |true=>
   obtain⟨_,o,e2,c,q2⟩:=q;show To (if true=true then _ else _) QS
   rw[Zam rfl];simp only[e2];cases o with
   |nx Z2=>exact ih q2 hs
   |ct Z2=>exact ih q2 hs
   |bk Z2=>exact⟨_,rfl,trivial,q2⟩
   |rt p=>exact⟨_,rfl,trivial,q2⟩
   |ro p=>exact⟨_,rfl,trivial,q2⟩
   |rd p=>exact⟨_,rfl,trivial,q2⟩
   |ex z=>exact c.elim
theorem iG{x:Option Out}{r:Res PV}(h:To x λo=>fin (some o)=some r):fin x=some r:=by
 obtain⟨o,e,_,q⟩:=h;rw[e];exact q
theorem rQ{x:Option Out}{r:Res PV}(h:To x λo=>qb (some o)=some r):qb x=some r:=by
 obtain⟨o,e,_,q⟩:=h;rw[e];exact q
theorem Bp{x:Option Out}{P:PV->Prop}(h:To x λo=>∃ p,fin (some o)=some (.ok p)/\P p):∃ p,fin x=some (.ok p)/\P p:=by
 obtain⟨o,e,_,q⟩:=h;rw[e];exact q
theorem wz{x:Option Out}{P:PV->Prop}(h:To x λo=>∃ p,qb (some o)=some (.ok p)/\P p):∃ p,qb x=some (.ok p)/\P p:=by
 obtain⟨o,e,_,q⟩:=h;rw[e];exact q
theorem fin_nx{Z:Rho}:fin (some (.nx Z))=some (.ok .non):=rfl
theorem fin_rt{p:PV}:fin (some (.rt p))=some (.ok p):=rfl
theorem finO_ro{p:PV}:qb (some (.ro p))=some (.ok p):=rfl
theorem Bq{tg:PV->Rho->Option Rho}{tst:Fn Bool}{el:Fn PV}{ρb:Rho}(t:PV->Bool)(f:PV->PV):∀ (l:List PV),
  (∀ x∈l,∃ Z1,tg x ρb=some Z1/\tst Z1=some (.ok (t x))/\(t x=true->el Z1=some (.ok (f x))))->fM tg tst el ρb l=some (.ok ((l.filter t).map f))
 |[],_=>rfl
 |x::xs,h=>by
  obtain⟨Z1,e1,e2,e3⟩:=h x Zax;have ih:=Bq t f xs λy hy=>h y (Zat _ hy);rw[fM,e1];simp only[e2,bnd];cases ht:t x with
  |true=>rw[Zam rfl,e3 ht];simp only[ih,Za8,ht,ZbA,Zaq]
  |false=>rw[Zal (by decide)];simp only[ih,Za8,ht,ZbB,Zbb]
theorem Qc{tg:PV->Rho->Option Rho}{el:Fn PV}{ρb:Rho}(f:PV->PV)(l:List PV)(h:∀ x∈l,∃ Z1,tg x ρb=some Z1/\el Z1=some (.ok (f x))):fM tg sJ el ρb l=some (.ok (l.map f)):=by
 have:=Bq (tg:=tg) (tst:=sJ) (el:=el) (ρb:=ρb) (λ_=>true) f l λx hx=>let⟨Z1,a,b⟩:=h x hx;⟨Z1,a,rfl,λ_=>b⟩
 rwa [Zbw.mpr λ_ _=>rfl] at this
theorem tv_compN{tg:PV->Rho->Option Rho}{tst:Fn Bool}{el:Fn PV}{ρb:Rho}{Q:List PV->Prop}:Tv (fM tg tst el ρb []) Q=Q []:=tv_some
theorem tv_compC{j:Nat}{tst:Fn Bool}{el:Fn PV}{ρb:Rho}{x:PV}{xs:List PV}{Q:List PV->Prop}:Tv (fM (gN j) tst el ρb (x::xs)) Q =
  Tv (tst (ρb.set j (some (.sh x)))) (λb=>if b=true then Tv (el (ρb.set j (some (.sh x)))) (λp=>Tv (fM (gN j) tst el ρb xs) (λr=>Q (p::r))) else Tv (fM (gN j) tst el ρb xs) Q):=by
 rw[fM];simp only[gN,tv_bnd,tv_ite,tv_some]
theorem tv_yes{Z:Rho}{Q:Bool->Prop}:Tv (sJ Z) Q=Q true:=tv_some
theorem fC{α:Type}{x:Option (Res α)}{q:α}(h:Tv x λp=>p=q):x=some (.ok q):=by
 obtain⟨p,e,rfl⟩:=h;exact e
theorem Zk{j:Nat}{el:Fn PV}{ρb:Rho}{l:List PV}(f:PV->PV)(h:∀ x∈l,Tv (el (ρb.set j (some (.sh x)))) λp=>p=f x):fM (gN j) sJ el ρb l=some (.ok (l.map f)):=
 Qc f l λx hx=>⟨_,rfl,fC (h x hx)⟩
theorem Zm{j:Nat}{tst:Fn Bool}{el:Fn PV}{ρb:Rho}{l:List PV}(t:PV->Bool)(f:PV->PV)(h:∀ x∈l,Tv (tst (ρb.set j (some (.sh x)))) λb=>b=t x)(h2:∀ x∈l,t x=true->Tv (el (ρb.set j (some (.sh x)))) λp=>p=f x) :
  fM (gN j) tst el ρb l=some (.ok ((l.filter t).map f)):=
 Bq t f l λx hx=>⟨_,rfl,fC (h x hx),λht=>fC (h2 x hx ht)⟩
def szP(w h:Int):PV:=.tup [.int w,.int h]
def cellP(c:Int×Int):PV:=.tup [.int c.1,.int c.2]
theorem snocI(l:List Int)(a:Int):l.map PV.int++[PV.int a]=(l++[a]).map PV.int:=by rw[ZaW];rfl
theorem snocS(l:List Str)(a:Str):l.map PV.str++[PV.str a]=(l++[a]).map PV.str:=by rw[ZaW];rfl
theorem snocC(l:List (Int×Int))(a b:Int):l.map cellP++[PV.tup [.int a,.int b]]=(l++[(a,b)]).map cellP:=by rw[ZaW];rfl
theorem is_non_int:isI .non "int"=some false:=rfl
theorem is_non_bool:isI .non "bool"=some false:=rfl
theorem is_non_str:isI .non "str"=some false:=rfl
theorem is_non_list:isI .non "list"=some false:=rfl
theorem is_non_tuple:isI .non "tuple"=some false:=rfl
theorem is_non_dict:isI .non "dict"=some false:=rfl
theorem is_bl_int{b:Bool}:isI (.bl b) "int"=some true:=rfl
theorem is_bl_bool{b:Bool}:isI (.bl b) "bool"=some true:=rfl
theorem is_bl_str{b:Bool}:isI (.bl b) "str"=some false:=rfl
theorem is_bl_list{b:Bool}:isI (.bl b) "list"=some false:=rfl
theorem is_bl_tuple{b:Bool}:isI (.bl b) "tuple"=some false:=rfl
theorem is_bl_dict{b:Bool}:isI (.bl b) "dict"=some false:=rfl
theorem is_int_int{i:Int}:isI (.int i) "int"=some true:=rfl
theorem is_int_bool{i:Int}:isI (.int i) "bool"=some false:=rfl
theorem is_int_str{i:Int}:isI (.int i) "str"=some false:=rfl
theorem is_int_list{i:Int}:isI (.int i) "list"=some false:=rfl
theorem is_int_tuple{i:Int}:isI (.int i) "tuple"=some false:=rfl
theorem is_int_dict{i:Int}:isI (.int i) "dict"=some false:=rfl
theorem is_str_int{z:Str}:isI (.str z) "int"=some false:=rfl
theorem is_str_bool{z:Str}:isI (.str z) "bool"=some false:=rfl
theorem is_str_str{z:Str}:isI (.str z) "str"=some true:=rfl
theorem is_str_list{z:Str}:isI (.str z) "list"=some false:=rfl
theorem is_str_tuple{z:Str}:isI (.str z) "tuple"=some false:=rfl
theorem is_str_dict{z:Str}:isI (.str z) "dict"=some false:=rfl
theorem is_tup_int{l:List PV}:isI (.tup l) "int"=some false:=rfl
theorem is_tup_bool{l:List PV}:isI (.tup l) "bool"=some false:=rfl
theorem is_tup_str{l:List PV}:isI (.tup l) "str"=some false:=rfl
theorem is_tup_list{l:List PV}:isI (.tup l) "list"=some false:=rfl
theorem is_tup_tuple{l:List PV}:isI (.tup l) "tuple"=some true:=rfl
theorem is_tup_dict{l:List PV}:isI (.tup l) "dict"=some false:=rfl
theorem is_lst_int{l:List PV}:isI (.lst l) "int"=some false:=rfl
theorem is_lst_bool{l:List PV}:isI (.lst l) "bool"=some false:=rfl
theorem is_lst_str{l:List PV}:isI (.lst l) "str"=some false:=rfl
theorem is_lst_list{l:List PV}:isI (.lst l) "list"=some true:=rfl
theorem is_lst_tuple{l:List PV}:isI (.lst l) "tuple"=some false:=rfl
theorem is_lst_dict{l:List PV}:isI (.lst l) "dict"=some false:=rfl
theorem Ju{α:Type}{g:α->PV}[DecidableEq α](h:∀ a b,eqF 31 (g a) (g b)=some (decide (a=b)))(a:α):∀ l:List α,inF (g a) (l.map g)=some (decide (a∈l))
 |[]=>rfl
 |x::xs=>by
  rw[Zaq,inF,h x a,Ju h a xs];simp only[ZaC,Bool.decide_or];congr 2
  exact decide_eq_decide.mpr ⟨λe=>e.symm,λe=>e.symm⟩
theorem Gk{α:Type}{g:α->PV}[DecidableEq α](h:∀ a b,eqF 31 (g a) (g b)=some (decide (a=b)))(a:α)(l:List α)[Decidable (a∈l)]:inF (g a) (l.map g)=some (decide (a∈l)):=by
 rw[Ju h a l];congr 1
 exact decide_eq_decide.mpr Iff.rfl
theorem Ek{ns:List Int}{i:Int}(h0:0<=i)(h:i<ns.length):atI (ns.map PV.int) i=some (.int (ns.getD i.toNat 0)):=by
 obtain⟨v,e1,e2⟩:=QW (xs:=ns.map PV.int) h0 (by rw[Zab];exact h)
 rw[e1];rw[Zac] at e2;have hl:i.toNat<ns.length:=by lia
 rw[Zae hl] at e2;rw[Zao,Zae hl];exact e2.symm
theorem atI_0{p:PV}{l:List PV}:atI (p::l) 0=some p:=mU (j:=0) rfl
theorem atI_1{p q:PV}{l:List PV}:atI (p::q::l) 1=some q:=mU (j:=1) rfl
theorem atI_2{p q r:PV}{l:List PV}:atI (p::q::r::l) 2=some r:=mU (j:=2) rfl
theorem atI_3{p q r s:PV}{l:List PV}:atI (p::q::r::s::l) 3=some s:=mU (j:=3) rfl
theorem Jv{l:List PV}{i:Nat}{p:PV}(h:l[i]?=some p):atI l (i:Int)=some p:=mU h
theorem tv_newD{Z:Rho}{Q:PV->Prop}:Tv (vI Z) Q=Q (.dk []):=tv_some
theorem is_dk_int{l:List (Key×PV)}:isI (.dk l) "int"=some false:=rfl
theorem is_dk_str{l:List (Key×PV)}:isI (.dk l) "str"=some false:=rfl
theorem tv_neg{i:Int}{Q:PV->Prop}:Tv (RM (.int i)) Q=Q (.int (-i)):=tv_some
section
variable{Z:Rho}{f g h:Fn PV}{i:Nat}{Q:PV->Prop}{QS:Out->Prop}{d k x p:PV}{l:List PV}
theorem Tc:Tv (asD p) Q=(p.isD=true/\Q p):=cA
theorem tv_viewD:Tv (Af f Z) Q=Tv (f Z) (λp=>p.isD=true/\Q p):=by unfold Af;rw[tv_bnd];simp only[Tc]
theorem tv_viewDN:Tv (b8 i Z) Q=Tv (mVL i Z) (λp=>p.isD=true/\Q p):=by unfold b8;rw[tv_bnd];simp only[Tc]
theorem zm{α:Type}{o:Option α}{F:α->PV}:Tv (o.map λr=>Res.ok (F r)) Q=∃ r,o=some r/\Q (F r):=by
 cases o with
 |none=>exact propext ⟨(λ⟨_,e,_⟩=>by cases e),(λ⟨_,e,_⟩=>by cases e)⟩
 |some r=>exact propext ⟨λ⟨_,e,q⟩=>by cases e;exact⟨r,rfl,q⟩,λ⟨_,e,q⟩=>by cases e;exact⟨_,rfl,q⟩⟩
theorem tv_dget2:Tv (Ai f g h Z) Q=Tv (f Z) (λd=>Tv (g Z) (λk=>Tv (h Z) (λx=>∃ r,dY d k=some r/\Q (r.getD x)))):=by
 unfold Ai;simp only[tv_bnd,zm]
theorem tv_dget1:Tv (Ah f g Z) Q=Tv (f Z) (λd=>Tv (g Z) (λk=>∃ r,dY d k=some r/\Q (r.getD .non))):=by
 unfold Ah;simp only[tv_bnd,zm]
theorem tv_opDGet:Tv (gn d k) Q=∃ p,dY d k=some (some p)/\Q p:=by
 unfold gn;split
 ·rename_i p h;rw[h,tv_some];exact propext ⟨λq=>⟨p,rfl,q⟩,λ⟨_,e,q⟩=>by cases e;exact q⟩
 ·rename_i h;rw[rP];exact propext ⟨λz=>z.elim,λ⟨p,e,_⟩=>(h p e).elim⟩
theorem tv_opDIn:Tv (Ag k d) Q=∃ r,dY d k=some r/\Q (.bl r.isSome):=by unfold Ag;rw[zm]
theorem tv_opDNotIn:Tv (jW k d) Q=∃ r,dY d k=some r/\Q (.bl (!r.isSome)):=by unfold jW;rw[zm]
theorem tv_dictP:Tv (pC d l) Q=∃ ps d',jo l=some ps/\eZ d ps=some d'/\Q d':=by
 unfold pC;split
 ·rename_i ps h;rw[h];refine propext ⟨?_,?_⟩
  ·rintro⟨r,e,q⟩;cases h2:eZ d ps with
   |none=>rw[h2] at e;cases e
   |some d'=>rw[h2] at e;cases e;exact⟨ps,_,rfl,h2,q⟩
  ·rintro⟨ps',d',e1,e2,q⟩;cases e1;exact⟨d',by rw[e2];rfl,q⟩
 ·rename_i h;rw[rP];exact propext ⟨λz=>z.elim,λ⟨ps,_,e,_⟩=>by rw[h] at e;cases e⟩
theorem tv_newT:Tv (Aj Z) Q=Q (.dt []):=tv_some
theorem tv_inv{j:Int}:Tv (RT (.int j)) Q=Q (.int (Builtin.bitNot j)):=tv_some
theorem to_dput:To (lq i f g Z) QS=Tv (f Z) (λp=>∃ d,Z[i]?=some (some (.ow d))/\Tv (g Z) (λk=>∃ d',yR d k p=some d'/\QS (.nx (Z.set i (some (.ow d')))))):=by
 unfold lq;rw[to_bnd];congr 1;funext p
 refine propext ⟨?_,?_⟩
 ·rintro⟨r,e,c,q⟩;split at e
  ·rename_i d hd;refine⟨d,bJ hd,?_⟩;rcases cQ e with⟨z,e1,rfl⟩|⟨k,e1,e2⟩
   ·exact c.elim
   ·split at e2
    ·rename_i d' h';cases e2;exact⟨k,e1,d',h',q⟩
    ·cases e2
  ·cases e
 ·rintro⟨d,e,k,e1,d',h1,q⟩;refine⟨.nx (Z.set i (some (.ow d'))),?_,trivial,q⟩;have eo:ownAt i Z=some d:=by unfold ownAt;rw[e]
  rw[eo];simp only[e1,UV,h1]
end
section
variable{l:List (Key×PV)}{t:List (List Key×PV)}{ks:List PV}{n:Int}{z:Str}{p:PV}
theorem dF_int:dY (.dk l) (.int n)=some (cI l (.inl n)):=rfl
theorem dF_str:dY (.dk l) (.str z)=some (cI l (.inr z)):=rfl
theorem dF_tup:dY (.dt t) (.tup ks)=(gm ks).map (cI t):=rfl
theorem xT:yR (.dk l) (.int n) p=if l.length<sizeLine then some (.dk (gY l (.inl n) p)) else none:=rfl
theorem isD_dk:(PV.dk l).isD=true:=rfl
theorem isD_dt:(PV.dt t).isD=true:=rfl
end
section
variable{κ:Type}[DecidableEq κ]
theorem oK(k j:κ)(p:PV):∀ l:List (κ×PV),cI (gY l k p) j=if j=k then some p else cI l j
 |[]=>by
  unfold gY cI;by_cases h:k=j
  ·rw[Zam h,Zam h.symm]
  ·rw[Zal h,Zal (Zbl h)];rfl
 |(a,q)::l=>by
  have ih:=oK k j p l;unfold gY;by_cases h:a=k
  ·rw[Zam h];subst h;unfold cI;by_cases h2:a=j
   ·rw[Zam h2,Zam h2.symm]
   ·rw[Zal h2,Zal (Zbl h2),Zal h2];split
    ·rw[ih,Zal (Zbl h2)]
    ·rfl
  ·rw[Zal h];unfold cI;by_cases h2:a=j
   ·rw[Zam h2,Zam h2,Zal (λz=>h (h2.trans z))]
   ·rw[Zal h2,Zal h2,ih]
theorem qK(k:κ)(p:PV):∀ l:List (κ×PV),(gY l k p).length<=l.length+1
 |[]=>by simp[gY]
 |(a,q)::l=>by
  have ih:=qK k p l;unfold gY;split
  ·split
   ·simp only[ZaP];lia
   ·simp only[ZaP];lia
  ·simp only[ZaP];lia
end
section
variable{f g:Fn PV}{Z:Rho}{Q:PV->Prop}{QS:Out->Prop}{i:Nat}{p:PV}
theorem tv_deep:Tv (Ir f Z) Q=Tv (f Z) (λp=>∃ l,p=.lst l/\l.all PV.still=true/\Q (.lst l)):=by
 unfold Ir;rw[tv_bnd];congr 1;funext p
 refine propext ⟨?_,?_⟩
 ·rintro⟨r,e,q⟩;cases p with
  |lst l=>
   have e:(if l.all PV.still=true then some (Res.ok (PV.lst l)) else none)=some (.ok r):=e;split at e
   ·rename_i h;cases e;exact⟨l,rfl,h,q⟩
   ·cases e
  |_=>cases e
 ·rintro⟨l,rfl,h,q⟩;exact⟨_,Zam h,q⟩
theorem tv_still:Tv (uv f Z) Q=Tv (f Z) (λp=>p.still=true/\Q p):=by
 unfold uv;rw[tv_bnd];congr 1;funext p
 exact cA
theorem to_setD:To (sY i f Z) QS=Tv (f Z) (λp=>QS (.nx (Z.set i (some (.dp p))))):=by unfold sY;simp only[to_bnd,to_nx]
theorem to_retDp:To (uw i Z) QS=∃ p,Z[i]?=some (some (.dp p))/\QS (.rd p):=by
 refine propext ⟨?_,λ⟨p,e,q⟩=>⟨.rd p,by unfold uw qG;rw[e],trivial,q⟩⟩
 rintro⟨r,e,c,q⟩;unfold uw at e;split at e
 ·rename_i p hp;cases e;exact⟨p,di hp,q⟩
 ·cases e
theorem tv_fz:Tv (mFz i f Z) Q=∃ p,Z[i]?=some (some (.dp p))/\Tv (f (Z.set i (some (.sh p)))) (λq=>q.flat=true/\Q q):=by
 refine propext ⟨?_,λ⟨p,e,r,e2,c,q⟩=>⟨r,by unfold mFz qG;rw[e];simp only[e2,bnd];rw[Zam c],q⟩⟩
 rintro⟨r,e,q⟩;unfold mFz at e;split at e
 ·rename_i p hp;rcases bM e with⟨z,_,e3⟩|⟨a,e3,e4⟩
  ·cases e3
  ·split at e4
   ·rename_i c;cases e4;exact⟨p,di hp,r,e3,c,q⟩
   ·cases e4
 ·cases e
theorem finT_rd:xN (some (.rd p))=some (.ok p):=rfl
theorem Vj{x:Option Out}{r:Res PV}(h:To x λo=>xN (some o)=some r):xN x=some r:=by
 obtain⟨o,e,_,q⟩:=h;rw[e];exact q
theorem zp{x:Option Out}{P:PV->Prop}(h:To x λo=>∃ p,xN (some o)=some (.ok p)/\P p):∃ p,xN x=some (.ok p)/\P p:=by
 obtain⟨o,e,_,q⟩:=h;rw[e];exact q
theorem Vl{l:List PV}(h:Z[i]?=some (some (.dp (.lst l))))(hs:Tv (f Z) λq=>l.length<sizeLine/\QS (.nx (Z.set i (some (.dp (.lst (l++[q]))))))):To (Iw i f Z) QS:=by
 obtain⟨r,e,c,q⟩:=hs;have ho:qG i Z=some (.lst l):=by unfold qG;rw[h]
 unfold Iw;rw[ho];exact⟨.nx (Z.set i (some (.dp (.lst (l++[r]))))),by simp only[e,fZ];rw[Zam c],trivial,q⟩
theorem Vm{l:List PV}{n:Int}{j:Nat}{row:List PV}{q:PV}(h:Z[i]?=some (some (.dp (.lst l))))(hi:f Z=some (.ok (.int n)))(hj:ixN l.length n=some j)(hr:l[j]?=some (.lst row))(he:g Z=some (.ok q))(st:q.still=true)(hl:row.length<sizeLine)
  (hs:QS (.nx (Z.set i (some (.dp (.lst (l.set j (.lst (row++[q])))))))) ):To (Iv i f g Z) QS:=by
 have ho:qG i Z=some (.lst l):=by unfold qG;rw[h]
 unfold Iv;rw[ho];exact⟨.nx (Z.set i (some (.dp (.lst (l.set j (.lst (row++[q]))))))),by simp only[hi,fZ,hj,hr,he];rw[Zam ⟨st,hl⟩],trivial,hs⟩
theorem tv_zip{l m:List PV}{Q:List PV->Prop}:Tv (RZ [.lst l,.lst m]) Q=Q (K9 l m):=tv_some
end
section
variable{f:Fn PV}{Z:Rho}{Q:PV->Prop}{QS:Out->Prop}{i j:Nat}{s:Sn}{p:PV}
theorem tv_dkeys{l:List (Key×PV)}{Q:List PV->Prop}:Tv (zf (.dk l)) Q=Q (Aq l):=tv_some
theorem tv_ditems{l:List (Key×PV)}{Q:List PV->Prop}:Tv (Aw (.dk l)) Q=Q (uA l):=tv_some
theorem tv_sort{l:List PV}:Tv (Av l) Q=∃ ns,gR l=some ns/\ns.length<64/\Q (.lst ((srt ns).map .int)):=by
 unfold Av;split
 ·rename_i ns h;rw[h,cA];exact propext ⟨λq=>⟨ns,rfl,q⟩,λ⟨_,e,q⟩=>by cases e;exact q⟩
 ·rename_i h;rw[rP];exact propext ⟨λz=>z.elim,λ⟨_,e,_⟩=>by rw[h] at e;cases e⟩
theorem mq:∀ ns:List Int,gR (ns.map .int)=some ns
 |[]=>rfl
 |n::ns=>by show(gR (ns.map .int)).map (n::·)=_;rw[mq ns];rfl
theorem tv_sortD{l:List (Key×PV)}:Tv (vX (.dk l)) Q=∃ ns,oF (l.map (·.1))=some ns/\ns.length<64/\Q (.lst ((srt ns).map .int)):=by
 show Tv (match oF (l.map (·.1)) with
  |some ns=>if ns.length<64 then some (.ok (.lst ((srt ns).map .int))) else none
  |none=>none) Q=_
 split
 ·rename_i ns h;rw[h,cA];exact propext ⟨λq=>⟨ns,rfl,q⟩,λ⟨_,e,q⟩=>by cases e;exact q⟩
 ·rename_i h;rw[rP];exact propext ⟨λz=>z.elim,λ⟨_,e,_⟩=>by rw[h] at e;cases e⟩
theorem tv_holdE:Tv (lZ i f Z) Q=∃ p,Z[i]?=some (some (.sh p))/\p.isD=true/\Tv (f Z) Q:=by
 refine propext ⟨?_,λ⟨p,e,d,r,e2,q⟩=>⟨r,by unfold lZ;rw[e];simp only;rw[Zam d];exact e2,q⟩⟩
 rintro⟨r,e,q⟩;unfold lZ at e;split at e
 ·rename_i p hp;split at e
  ·rename_i d;exact⟨p,hp,d,r,e,q⟩
  ·cases e
 ·cases e
def Nz(QS:Out->Prop):Out->Prop
 |.rd _=>False
 |o=>QS o
theorem holdQ_nx:Nz QS (.nx Z)=QS (.nx Z):=rfl
theorem holdQ_rt:Nz QS (.rt p)=QS (.rt p):=rfl
theorem holdQ_ro:Nz QS (.ro p)=QS (.ro p):=rfl
theorem to_hold:To (yz i s Z) QS=∃ p,Z[i]?=some (some (.sh p))/\p.isD=true/\To (s Z) (Nz QS):=by
 refine propext ⟨?_,λ⟨p,e,d,o,e2,c,q⟩=>⟨o,?_,c,?_⟩⟩
 ·rintro⟨o,e,c,q⟩;unfold yz at e;split at e
  ·rename_i p hp;split at e
   ·rename_i d;refine⟨p,hp,d,o,?_⟩;split at e
    ·cases e
    ·rename_i x hx;refine⟨e,c,?_⟩;cases o with
     |rd y=>exact(hx y e).elim
     |_=>exact q
   ·cases e
  ·cases e
 ·unfold yz;rw[e];simp only;rw[Zam d,e2];cases o with
  |rd y=>exact q.elim
  |_=>rfl
 ·cases o with
  |rd y=>exact q.elim
  |_=>exact q
theorem to_io2{m:List PV->Option (Res PV)}{f:Fn (List PV)}:To (Lb i j m f Z) QS=∃ p q,Z[i]?=some (some (.ow p))/\Z[j]?=some (some (.ow q))/\Tv (f Z) (λl=>∃ p' q',m (p::q::l)=some (.ok (.tup [p',q']))/\QS (.nx ((Z.set i (some (.ow p'))).set j (some (.ow q'))))):=by
 refine propext ⟨λh=>?_,?_⟩
 ·unfold Lb at h;rw[to_bnd] at h;obtain⟨l,e,o,e2,c,h⟩:=h;unfold zg at e;split at e
  ·rename_i p q h1 h2;rcases bM e with⟨z,_,e3⟩|⟨l',e3,e4⟩
   ·cases e3
   ·cases e4;split at e2
    ·rename_i p' q' hm;cases e2;exact⟨p,q,bJ h1,bJ h2,l',e3,p',q',hm,h⟩
    ·cases e2
  ·cases e
 ·rintro⟨p,q,e1,e2,l,e3,p',q',e4,h⟩;have o1:ownAt i Z=some p:=by unfold ownAt;rw[e1]
  have o2:ownAt j Z=some q:=by unfold ownAt;rw[e2]
  refine⟨.nx ((Z.set i (some (.ow p'))).set j (some (.ow q'))),?_,trivial,h⟩;unfold Lb zg;rw[o1,o2];simp only[e3,bnd,fZ,e4]
theorem tv_callT{m:List PV->Option (Res PV)}{f:Fn (List PV)}:Tv (Ax m f Z) Q=Tv (f Z) (λl=>Tv (m l) Q):=by
 unfold Ax;rw[tv_bnd];congr 1;funext l
 refine propext ⟨?_,λ⟨r,e,q⟩=>⟨r,by rw[e],q⟩⟩
 rintro⟨r,e,q⟩;split at e
 ·rename_i p hp;cases e;exact⟨_,hp,q⟩
 ·cases e
theorem to_frzD:To (sZ i s Z) QS=∃ p,Z[i]?=some (some (.dp p))/\To (s (Z.set i (some (.sh p)))) QS:=by
 refine propext ⟨?_,λ⟨p,e,r,e2,q⟩=>⟨r,by unfold sZ qG;rw[e];exact e2,q⟩⟩
 rintro⟨r,e,q⟩;unfold sZ at e;split at e
 ·rename_i p hp;exact⟨p,di hp,r,e,q⟩
 ·cases e
theorem tv_ownD:Tv (mj i Z) Q=∃ p,Z[i]?=some (some (.ow p))/\p.lM=true/\Q p:=by
 refine propext ⟨?_,λ⟨p,e,h,q⟩=>⟨p,by unfold mj ownAt;rw[e];simp only;rw[Zam h],q⟩⟩
 rintro⟨r,e,q⟩;unfold mj at e;split at e
 ·rename_i p hp;split at e
  ·rename_i h;cases e;exact⟨_,bJ hp,h,q⟩
  ·cases e
 ·cases e
theorem to_retT{f:Fn (List PV)}:To (yC f Z) QS=Tv (f Z) (λl=>l.length<=sizeLine/\QS (.rd (.tup l))):=by
 unfold yC;rw[to_bnd];congr 1;funext l
 by_cases h:l.length<=sizeLine
 ·rw[Zam h,to_rd];simp[h]
 ·rw[Zal h,Gi];simp[h]
theorem rR{x:Option Out}{P:PV->Prop}(h:To x λo=>∃ p,uy (some o)=some (.ok p)/\P p):∃ p,uy x=some (.ok p)/\P p:=by
 obtain⟨o,e,_,q⟩:=h;rw[e];exact q
end
def pI:Sn:=
 (gj (zP (m2 FW (mVL 0) (mC (.ty "int"))) (m1 Ri (m2 FW (mVL 0) (mC (.ty "bool"))))))
def pJ:List PV->Option (Res PV)
 |[a0]=>fin (pI (startR [a0] 0))
 |_=>none
def uE:Sn:=
 (gj (m2 dO (m2 iT (m2 bU (mV 1) (mC (.int 1))) (m2 bU (mV 0) (mC (.int 0)))) (m2 bU (mV 1) (mC (.int 0)))))
def jG:List PV->Option (Res PV)
 |[a0,a1]=>fin (uE (startR [a0,a1] 0))
 |_=>none
def uF:Sn:=
 (gj (m2 ph (m2 pW (m2 HY (mV 1) (bF jG (az (mV 0) (az (mV 2) bf)))) (mC (.int 1))) (mC (.int 1))))
def jH:List PV->Option (Res PV)
 |[a0,a1,a2]=>fin (uF (startR [a0,a1,a2] 0))
 |_=>none
def qL:Sn:=
 (vB (gQ (m1 nJ (az (m2 iT (m2 bU (mV 0) (mC (.int 0))) (m2 bU (mV 0) (mC (.int 1)))) bf)) [none,some 0] (gN 0) sJ (nH (az (m2 gP (mV 0) (m2 bU (mV 1) (mC (.int 0)))) (az (m2 zU (mV 0) (m2 bU (mV 1) (mC (.int 0)))) bf)))))
def m6:List PV->Option (Res PV)
 |[a0]=>qb (qL (startR [a0] 0))
 |_=>none
def wA:Sn:=
 (gj (m2 sX (m2 yx (mC (.int 1)) (m2 iT (m2 bU (mV 0) (mC (.int 0))) (m2 bU (mV 0) (mC (.int 1))))) (mC (.int 1))))
def wB:List PV->Option (Res PV)
 |[a0]=>fin (wA (startR [a0] 0))
 |_=>none
def Br:Sn:=
 (cu (m2 Rr (mV 2) (m2 yx (mC (.int 1)) (bF jG (az (mV 0) (az (mV 3) bf))))) (gN 2))
def Bs:Sn:=
 (gj (mV 2))
def Bt:Sn:=
 (aY (cu (mC (.int 0)) (gN 2))
   (aY (oA (m1 kY (mV 1)) (gN 3)
    Br)
   Bs))
def oM:List PV->Option (Res PV)
 |[a0,a1]=>fin (Bt (startR [a0,a1] 2))
 |_=>none
def uG:Sn:=
 (vB (gQ (m1 kY (bF m6 (az (mV 0) bf))) [none,some 0,some 1] (gN 0) (m1 cY (bF jH (az (mV 1) (az (mV 2) (az (mV 0) bf))))) (mV 0)))
def iH:List PV->Option (Res PV)
 |[a0,a1]=>qb (uG (startR [a0,a1] 0))
 |_=>none
def wC:Sn:=
 (gj (m2 ph (m2 pW (mV 0) (mV 1)) (mVL 0)))
def wD:List PV->Option (Res PV)
 |[a0,a1]=>fin (wC (startR [a0,a1] 0))
 |_=>none
def Bu:Sn:=
 (yC (az (uv (mV 7)) (az (mj 3) (az (mj 4) bf))))
def Bv:Sn:=
 (Fq 3 (m2 gn (b8 1) (mV 7)))
def Bw:Sn:=
 (aY (lq 4 (mV 6) (mV 7))
     (aY (j9 (m1 cY (m2 jW (mV 7) (b8 1)))
      Bu
      gh)
     Bv))
def Bx:Sn:=
 (aY (j9 (m1 cY (m2 Ag (mV 7) (b8 4)))
      MF
      gh)
     Bw)
def By:Sn:=
 (cu (m2 dO (mV 5) (mC (.int 1))) (gN 5))
def BJ:Sn:=
 (aY (cu (m2 DG (nO 3) (mV 5)) (gN 6))
    (aY (oA (m1 kY (m2 gn (b8 0) (mV 6))) (gN 7)
     Bx)
    By))
def BK:Sn:=
 (yC (az (uv (mC .non)) (az (mj 3) (az (mj 4) bf))))
def BL:Sn:=
 (aY (jg 3 (m1 FZ (nO 2)))
   (aY (jg 4 Aj)
   (aY (cu (mC (.int 0)) (gN 5))
   (aY (kW (m1 cY (m2 zV (mV 5) (m1 iW (mVL 3))))
    BJ 2000)
   BK))))
def mz:List PV->Option (Res PV)
 |[a0,a1,a2]=>xN (BL (startR [a0,a1,a2] 5))
 |_=>none
def tE:Sn:=
 (aY (cu (m2 gn (b8 2) (mV 4)) (gN 5))
    (aY (cu (Ah (b8 0) (mV 5)) (gN 6))
    (aY (lq 0 (mV 4) (mV 5))
    (aY (lq 1 (mV 5) (mV 4))
    (cu (mV 6) (gN 4))))))
def jY:Sn:=
 (aY (cu (mV 3) (gN 4))
   (kW (m1 cY (m2 Fz (mVL 4) (mC .non)))
    tE 2000))
def gr:List PV->Option (Res PV)
 |[a0,a1,a2,a3]=>uy (jY (dI [a0,a1,a2,a3] 3))
 |_=>none
def qM:Sn:=
 (aY (sY 4 (Ax mz (az (mVL 0) (az (mVL 2) (az (zR (az (mV 3) bf)) bf)))))
    (sZ 4 (Lb 1 2 gr (az (m2 bU (mV 4) (mC (.int 2))) (az (m2 bU (mV 4) (mC (.int 0))) bf)))))
def qN:Sn:=
 (lY 1)
def pK:Sn:=
 (aY (jg 1 Aj)
   (aY (jg 2 Aj)
   (aY (yz 0 (oA (m1 ww (mV 0)) (gN 3)
    qM))
   qN)))
def jq:List PV->Option (Res PV)
 |[a0]=>qb (pK (startR [a0] 4))
 |_=>none
def jr:Sn:=
 (aY (cu (m1 (pC (.dt [])) (oE (lZ 1 (gQ (m1 wy (mV 1)) [none,none] (gT 2 (gsCons (gN 0) (gsCons (gN 1) gsNil))) sJ (nH (az (mV 1) (az (mV 0) bf))))))) (gN 2))
   (aY (sY 3 (bF mz (az (mV 0) (az (mV 2) (az (lZ 0 (gQ (m1 ww (mV 0)) [none,some 1] (gN 0) (m1 cY (m2 jW (mV 0) (b8 1))) (mV 0))) bf)))))
   (sZ 3 (gj (nH (az (m1 rO (oE (m2 bU (mV 3) (mC (.int 1))))) (az (m1 Bj (Af (m2 bU (mV 3) (mC (.int 2))))) bf)))))))
def fP:List PV->Option (Res PV)
 |[a0,a1]=>fin (jr (startR [a0,a1] 2))
 |_=>none
def wF:Sn:=
 (yC (az (uv (mV 7)) (az (mj 3) (az (mj 4) bf))))
def wI:Sn:=
 (Fq 3 (m2 gn (b8 1) (mV 7)))
def wJ:Sn:=
 (aY (lq 4 (mV 6) (mV 7))
     (aY (j9 (m1 cY (m2 jW (mV 7) (b8 1)))
      wF
      gh)
     wI))
def wK:Sn:=
 (aY (j9 (m1 cY (m2 Ag (mV 7) (b8 4)))
      MF
      gh)
     wJ)
def wL:Sn:=
 (cu (m2 dO (mV 5) (mC (.int 1))) (gN 5))
def wM:Sn:=
 (aY (cu (m2 DG (nO 3) (mV 5)) (gN 6))
    (aY (oA (m1 kY (m2 gn (b8 0) (mV 6))) (gN 7)
     wK)
    wL))
def wN:Sn:=
 (yC (az (uv (mC .non)) (az (mj 3) (az (mj 4) bf))))
def uH:Sn:=
 (aY (jg 3 (m1 FZ (nO 2)))
   (aY (jg 4 vI)
   (aY (cu (mC (.int 0)) (gN 5))
   (aY (kW (m1 cY (m2 zV (mV 5) (m1 iW (mVL 3))))
    wM 200)
   wN))))
def iI:List PV->Option (Res PV)
 |[a0,a1,a2]=>xN (uH (startR [a0,a1,a2] 5))
 |_=>none
def pY:Sn:=
 (aY (cu (m2 gn (b8 2) (mV 4)) (gN 5))
    (aY (cu (Ah (b8 0) (mV 5)) (gN 6))
    (aY (lq 0 (mV 4) (mV 5))
    (aY (lq 1 (mV 5) (mV 4))
    (cu (mV 6) (gN 4))))))
def ie:Sn:=
 (aY (cu (mV 3) (gN 4))
   (kW (m1 cY (m2 Fz (mVL 4) (mC .non)))
    pY 200))
def d8:List PV->Option (Res PV)
 |[a0,a1,a2,a3]=>uy (ie (dI [a0,a1,a2,a3] 3))
 |_=>none
def oN:Sn:=
 (aY (sY 4 (Ax iI (az (mVL 0) (az (mVL 2) (az (zR (az (mV 3) bf)) bf)))))
    (sZ 4 (Lb 1 2 d8 (az (m2 bU (mV 4) (mC (.int 2))) (az (m2 bU (mV 4) (mC (.int 0))) bf)))))
def oO:Sn:=
 (lY 1)
def mD:Sn:=
 (aY (jg 1 vI)
   (aY (jg 2 vI)
   (aY (yz 0 (oA (m1 zf (mV 0)) (gN 3)
    oN))
   oO)))
def gw:List PV->Option (Res PV)
 |[a0]=>qb (mD (startR [a0] 4))
 |_=>none
def gU:Sn:=
 (aY (cu (m1 (pC (.dk [])) (oE (lZ 1 (gQ (m1 Aw (mV 1)) [none,none] (gT 2 (gsCons (gN 0) (gsCons (gN 1) gsNil))) sJ (nH (az (mV 1) (az (mV 0) bf))))))) (gN 2))
   (aY (sY 3 (bF iI (az (mV 0) (az (mV 2) (az (lZ 0 (gQ (m1 zf (mV 0)) [none,some 1] (gN 0) (m1 cY (m2 jW (mV 0) (b8 1))) (mV 0))) bf)))))
   (sZ 3 (gj (nH (az (m1 Av (oE (m2 bU (mV 3) (mC (.int 1))))) (az (m1 vX (Af (m2 bU (mV 3) (mC (.int 2))))) bf)))))))
def eO:List PV->Option (Res PV)
 |[a0,a1]=>fin (gU (startR [a0,a1] 2))
 |_=>none
def jt:Sn:=
 (vB (gQ (m1 nJ (az (mV 1) bf)) [none,some 0,some 1] (gN 0) (m1 cY (bF wD (az (m2 bU (mV 1) (mV 2)) (az (m2 bU (mV 1) (mV 0)) bf)))) (mV 0)))
def ju:List PV->Option (Res PV)
 |[a0,a1]=>qb (jt (startR [a0,a1] 0))
 |_=>none
def tG:Sn:=
 (aY (lq 3 (m2 gn (b8 3) (m2 gn (b8 1) (mV 4))) (mV 4))
     (Iv 2 (m2 gn (b8 3) (mV 4)) (mV 4)))
def tH:Sn:=
 (aY (lq 3 (mFz 2 (m1 iW (mVL 2))) (mV 4))
     (Iw 2 (Ir (zR (az (mV 4) bf)))))
def tK:Sn:=
 (j9 (m1 cY (m2 Ag (mV 4) (b8 1)))
     tG
     tH)
def tL:Sn:=
 (uw 2)
def m7:Sn:=
 (aY (sY 2 (Ir (zR bf)))
   (aY (jg 3 vI)
   (aY (oA (m1 nJ (az (mV 0) bf)) (gN 4)
    tK)
   tL)))
def jb:List PV->Option (Res PV)
 |[a0,a1]=>xN (m7 (startR [a0,a1] 3))
 |_=>none
def iC:Sn:=
 (aY (cu (m1 (pC (.dk [])) (oE (gQ (m1 nJ (az (m1 iW (mVL 0)) bf)) [none,some 0] (gN 0) sJ (nH (az (mV 0) (az (bF ju (az (mV 1) (az (mV 0) bf))) bf)))))) (gN 1))
   (aY (cu (bF gw (az (mV 1) bf)) (gN 2))
   (aY (cu (bF eO (az (mV 1) (az (mV 2) bf))) (gN 3))
   (aY (jg 4 (gQ (m1 kY (m2 bU (mV 3) (mC (.int 0)))) [none,some 3] (gN 0) (m1 cY (m2 mW (mVL 0) (m2 bU (mV 1) (mC (.int 1))))) (mV 0)))
   (yC (az (bF jb (az (m1 iW (mVL 0)) (az (mV 2) bf))) (az (mj 4) bf)))))))
def fD:List PV->Option (Res PV)
 |[a0]=>xN (iC (startR [a0] 4))
 |_=>none
def CN:Sn:=
 (gj (mC (.bl false)))
def CP:Sn:=
 (gj (mC (.bl false)))
def tM:Sn:=
 (gj (zP (m1 DN (oE (gQ (m1 kY (Rz (mV 0) (m1 asInt (mC (.int 1))) mPn)) [none] (gN 0) sJ (bF pJ (az (mV 0) bf))))) (m2 Pn (m2 bU (mV 0) (mC (.int 2))) (m2 bU (mV 0) (mC (.int 3))))))
def tO:Sn:=
 (aY (j9 (mOr (HR (m1 cY (m2 FW (m2 bU (mV 0) (mC (.int 0))) (mC (.ty "str"))))) (m1 cY (m2 mW (m2 bU (mV 0) (mC (.int 0))) (nH (az (mC (.str "row")) (az (mC (.str "column")) bf))))))
    CP
    gh)
   tM)
def m8:Sn:=
 (aY (j9 (mOr (HR (m1 cY (m2 FW (mVL 0) (mC (.ty "tuple"))))) (m1 cY (m2 uq (m1 iW (mVL 0)) (mC (.int 4)))))
    CN
    gh)
   tO)
def m9:List PV->Option (Res PV)
 |[a0]=>fin (m8 (startR [a0] 0))
 |_=>none
def pL:Sn:=
 (gj (mIf (m1 cY (m2 ph (mVL 1) (mC (.str "row")))) (m2 bU (mV 0) (mC (.int 1))) (m2 bU (mV 0) (mC (.int 0)))))
def jJ:List PV->Option (Res PV)
 |[a0,a1]=>fin (pL (startR [a0,a1] 0))
 |_=>none
def ni:Sn:=
 (gj (mIf (m1 cY (m2 ph (mVL 1) (mC (.str "row")))) (m2 bU (mV 0) (mC (.int 0))) (m2 bU (mV 0) (mC (.int 1)))))
def jc:List PV->Option (Res PV)
 |[a0,a1]=>fin (ni (startR [a0,a1] 0))
 |_=>none
def Jw:Sn:=
 (gj (mC (.bl false)))
def yH:Sn:=
 (gj (zP (Fo Pn zV (mC (.int 0)) (m2 bU (mV 1) (mC (.int 1))) (bF jJ (az (mV 0) (az (m2 bU (mV 1) (mC (.int 0))) bf)))) (zP (m2 Pn (mC (.int 0)) (m2 bU (mV 1) (mC (.int 2)))) (m2 zV (m2 bU (mV 1) (mC (.int 3))) (bF jc (az (mV 0) (az (m2 bU (mV 1) (mC (.int 0))) bf)))))))
def rT:Sn:=
 (aY (j9 (HR (m1 cY (bF m9 (az (mV 1) bf))))
    Jw
    gh)
   yH)
def rW:List PV->Option (Res PV)
 |[a0,a1]=>fin (rT (startR [a0,a1] 0))
 |_=>none
def oR:Sn:=
 (vB (gQ (m1 FQ (az (m2 bU (mV 0) (mC (.int 2))) (az (m2 dO (m2 bU (mV 0) (mC (.int 3))) (mC (.int 1))) bf))) [none,some 0] (gN 0) sJ (nH (az (mV 0) (az (m2 bU (mV 1) (mC (.int 1))) bf)))))
def oU:Sn:=
 (vB (gQ (m1 FQ (az (m2 bU (mV 0) (mC (.int 2))) (az (m2 dO (m2 bU (mV 0) (mC (.int 3))) (mC (.int 1))) bf))) [none,some 0] (gN 0) sJ (nH (az (m2 bU (mV 1) (mC (.int 1))) (az (mV 0) bf)))))
def jw:Sn:=
 (aY (j9 (m1 cY (m2 ph (m2 bU (mV 0) (mC (.int 0))) (mC (.str "row"))))
    oR
    gh)
   oU)
def cX:List PV->Option (Res PV)
 |[a0]=>qb (jw (startR [a0] 0))
 |_=>none
def nj:Sn:=
 (gj (bF oM (az (mV 0) (az (bF cX (az (mV 1) bf)) bf))))
def jZ:List PV->Option (Res PV)
 |[a0,a1]=>fin (nj (startR [a0,a1] 0))
 |_=>none
def fQ:Sn:=
 (aY (cu (m2 sX (bF jc (az (mV 0) (az (mV 2) bf))) (mC (.int 1))) (gN 4))
   (aY (cu (bF cX (az (nH (az (mV 2) (az (mV 3) (az (mC (.int 0)) (az (mV 4) bf))))) bf)) (gN 5))
   (aY (cu (m2 DK (oE (m2 DK (oE (zR (az (m1 RM (mC (.int 1))) bf))) (oE (gQ (m1 zY (az (mV 5) bf)) [none,none,some 0,some 1] (gT 2 (gsCons (gN 0) (gsCons (gN 1) gsNil))) (m1 cY (bF jH (az (mV 2) (az (mV 3) (az (mV 1) bf))))) (mV 0))))) (oE (zR (az (m2 dO (mV 4) (mC (.int 1))) bf)))) (gN 6))
   (vB (gQ (m1 RZ (az (mV 6) (az (Rw (nO 6) (m1 asInt (mC (.int 1))) mPn) bf))) [none,none,some 2,some 3] (gT 2 (gsCons (gN 0) (gsCons (gN 1) gsNil))) (m1 cY (m2 zV (m2 dO (mV 0) (mC (.int 1))) (mV 1))) (nH (az (mV 2) (az (mV 3) (az (m2 dO (mV 0) (mC (.int 1))) (az (m2 sX (mV 1) (mC (.int 1))) bf))))))))))
def fU:List PV->Option (Res PV)
 |[a0,a1,a2,a3]=>qb (fQ (startR [a0,a1,a2,a3] 3))
 |_=>none
def lw:Sn:=
 (lq 3 (mV 5) (mV 6))
def lz:Sn:=
 (oA (m1 kY (bF cX (az (mV 5) bf))) (gN 6)
      lw)
def lC:Sn:=
 (oA (m1 kY (bF fU (az (mV 0) (az (mV 1) (az (mV 2) (az (mV 4) bf)))))) (gN 5)
     lz)
def lD:Sn:=
 (lY 3)
def jx:Sn:=
 (aY (jg 3 Aj)
   (aY (oA (m1 nJ (az (bF jJ (az (mV 0) (az (mV 2) bf))) bf)) (gN 4)
    lC)
   lD))
def dm:List PV->Option (Res PV)
 |[a0,a1,a2]=>qb (jx (startR [a0,a1,a2] 4))
 |_=>none
def tQ:Sn:=
 (wj 5 (m2 gn (b8 3) (mV 6)) (m2 gn (b8 4) (mV 6)))
def tR:Sn:=
 (uw 5)
def qO:Sn:=
 (aY (cu (bF dm (az (mV 0) (az (mV 2) (az (mC (.str "row")) bf)))) (gN 3))
   (aY (cu (bF dm (az (mV 0) (az (mV 2) (az (mC (.str "column")) bf)))) (gN 4))
   (aY (sY 5 (Wn Aj))
   (aY (oA (m1 kY (bF iH (az (mV 0) (az (mV 1) bf)))) (gN 6)
    tQ)
   tR))))
def j4:List PV->Option (Res PV)
 |[a0,a1,a2]=>xN (qO (startR [a0,a1,a2] 4))
 |_=>none
def uI:Sn:=
 K6
def mF:Sn:=
 (aY (sY 4 (bF j4 (az (mV 0) (az (mV 1) (az (mV 2) bf)))))
   (aY (sZ 4 (cu (bF jq (az (mV 4) bf)) (gN 5)))
   (aY (cu (bF fP (az (mV 4) (az (mV 5) bf))) (gN 6))
   (aY (cu (m2 DK (oE (lZ 4 (gQ (m1 ww (mV 4)) [none,some 6] (gN 0) (m1 cY (m2 mW (mVL 0) (m2 bU (mV 1) (mC (.int 0))))) (mV 0)))) (oE (m2 bU (mV 6) (mC (.int 1))))) (gN 7))
   (aY (cu (bF oM (az (mV 0) (az (lZ 5 (gQ (m1 wy (mV 5)) [none,none] (gT 2 (gsCons (gN 0) (gsCons (gN 1) gsNil))) sJ (nH (az (m2 bU (mV 1) (mC (.int 1))) (az (m2 bU (mV 0) (mC (.int 1))) bf))))) bf))) (gN 8))
   (gj (nH (az (m1 rO (nO 7)) (az (bF iH (az (mV 0) (az (mV 8) bf))) bf)))))))))
def gJ:Sn:=
 (aY (cu (bF iH (az (mV 0) (az (m2 pW (mV 1) (mV 2)) bf))) (gN 3))
   (aY (j9 (m1 cY (m2 K5 (m1 iW (mVL 3)) (mC (.int 0))))
    uI
    gh)
   mF))
def cR:List PV->Option (Res PV)
 |[a0,a1,a2]=>fin (gJ (startR [a0,a1,a2] 6))
 |_=>none
def lE:Sn:=
 (lq 1 (mV 2) (mV 4))
def lF:Sn:=
 (oA (m1 kY (mV 3)) (gN 4)
     lE)
def lG:Sn:=
 (lY 1)
def fV:Sn:=
 (aY (jg 1 vI)
   (aY (oA (m1 zY (az (m2 bU (bF fD (az (mV 0) bf)) (mC (.int 0))) bf)) (gT 2 (gsCons (gN 2) (gsCons (gN 3) gsNil)))
    lF)
   lG))
def d7:List PV->Option (Res PV)
 |[a0]=>qb (fV (startR [a0] 4))
 |_=>none
def yI:Sn:=
 (aY (cu (m2 gn (b8 2) (mV 5)) (gN 7))
    (aY (cu (m2 pW (Ai (b8 3) (mV 7) (bF wB (az (mV 0) bf))) (m1 RT (mV 6))) (gN 8))
    (aY (S9 4 (gQ (m1 kY (m2 bU (bF cR (az (mV 0) (az (mV 8) (az (mV 6) bf)))) (mC (.int 0)))) [none,some 7] (gN 0) sJ (nH (az (mC (.str "cut")) (az (mV 1) (az (mV 0) bf))))))
    (aY (Fq 4 (nH (az (mC (.str "print")) (az (mV 7) (az (mV 5) bf)))))
    (lq 3 (mV 6) (mV 7))))))
def yJ:Sn:=
 (lY 4)
def rY:Sn:=
 (aY (cu (bF d7 (az (mV 1) bf)) (gN 2))
   (aY (jg 3 vI)
   (aY (jg 4 (zR bf))
   (aY (oA (m1 zY (az (mV 1) bf)) (gT 2 (gsCons (gN 5) (gsCons (gN 6) gsNil)))
    yI)
   yJ))))
def rZ:List PV->Option (Res PV)
 |[a0,a1]=>qb (rY (startR [a0,a1] 7))
 |_=>none
def tU:Sn:=
 (gj (m2 bU (mV 0) (mV 1)))
def tV:Sn:=
 (cu (m2 dO (mV 2) (m2 gP (m2 bU (mV 0) (m2 gP (m2 iT (mV 1) (mC (.int 7))) (m1 iW (mVL 0)))) (mC (.int 2147483629)))) (gN 2))
def nT:Sn:=
 (gj (m2 gP (m2 iT (mV 2) (mV 2)) (mC (.int 2147483629))))
def tW:Sn:=
 (aY (cu (m2 dO (m2 iT (mV 1) (mV 1)) (mC (.int 7919))) (gN 2))
   (aY (j9 (m1 cY (m2 K5 (m1 iW (mVL 0)) (mC (.int 0))))
    tV
    gh)
   nT))
def qP:Sn:=
 (aY (j9 (m1 cY (m2 zV (mV 1) (m1 iW (mVL 0))))
    tU
    gh)
   tW)
def dD:List PV->Option (Res PV)
 |[a0,a1]=>fin (qP (startR [a0,a1] 1))
 |_=>none
def qQ:Sn:=
 (gj (m2 pW (m2 HY (mV 0) (m2 iT (mC (.int 31)) (mV 1))) (mC (.int 2147483647))))
def qR:Sn:=
 (aY (cu (m2 gP (m2 iT (m2 dO (m2 dO (m2 dO (m2 gP (mV 0) (mC (.int 2147483629))) (m2 iT (m2 iT (mC (.int 7919)) (mV 1)) (mV 1))) (mV 1)) (mC (.int 13))) (mC (.int 48271))) (mC (.int 2147483587))) (gN 2))
   (aY (cu (m2 gP (m2 iT (mV 2) (mV 2)) (mC (.int 2147483629))) (gN 2))
   (gj (m2 gP (m2 iT (m2 dO (mV 2) (mV 1)) (mC (.int 69621))) (mC (.int 2147483563))))))
def pM:Sn:=
 (aY (j9 (m1 cY (m2 U0 (mV 0) (m2 M3 (mC (.int 10)) (mC (.int 18)))))
    qQ
    gh)
   qR)
def bI:List PV->Option (Res PV)
 |[a0,a1]=>fin (pM (startR [a0,a1] 1))
 |_=>none
def tX:Sn:=
 (gj (nH (az (m2 dO (mC (.int 1)) (m2 gP (mV 1) (mC (.int 8)))) (az (m2 dO (mC (.int 1)) (m2 gP (m2 zU (mV 1) (mC (.int 8))) (mC (.int 8)))) bf))))
def tY:Sn:=
 (gj (nH (az (m2 dO (mC (.int 1)) (m2 gP (mV 1) (mC (.int 6)))) (az (m2 dO (mC (.int 1)) (m2 gP (m2 zU (mV 1) (mC (.int 6))) (mC (.int 6)))) bf))))
def nq:Sn:=
 (aY (cu (bF bI (az (mV 0) (az (mC (.int 3)) bf))) (gN 1))
   (aY (j9 (m1 cY (m2 ph (m2 gP (bF bI (az (mV 0) (az (mC (.int 4)) bf))) (mC (.int 8))) (mC (.int 3))))
    tX
    gh)
   tY))
def j5:List PV->Option (Res PV)
 |[a0]=>fin (nq (startR [a0] 1))
 |_=>none
def wO:Sn:=
 (cu (m2 dO (m2 iT (mV 4) (mC (.int 2147483587))) (bF bI (az (mV 1) (az (m2 dO (m2 iT (mC (.int 30)) (mV 2)) (mV 5)) bf)))) (gN 4))
def wQ:Sn:=
 (gj (m2 sX (m2 yx (mC (.int 1)) (mV 3)) (mC (.int 1))))
def wR:Sn:=
 (gj (mC (.int 0)))
def wU:Sn:=
 (gj (mV 4))
def wV:Sn:=
 (aY (j9 (m1 cY (m2 ph (mVL 6) (mC (.int 2))))
    wR
    gh)
   wU)
def wW:Sn:=
 (aY (cu (m2 gP (mV 4) (m2 yx (mC (.int 1)) (mV 3))) (gN 4))
   (aY (cu (m2 gP (bF bI (az (mV 1) (az (m2 dO (m2 iT (mC (.int 30)) (mV 2)) (mC (.int 29))) bf))) (mC (.int 8))) (gN 6))
   (aY (j9 (m1 cY (m2 ph (mVL 6) (mC (.int 1))))
    wQ
    gh)
   wV)))
def pN:Sn:=
 (aY (cu (m2 iT (m2 bU (mV 0) (mC (.int 0))) (m2 bU (mV 0) (mC (.int 1)))) (gN 3))
   (aY (cu (mC (.int 0)) (gN 4))
   (aY (oA (m1 nJ (az (m2 dO (mC (.int 1)) (m2 zU (mV 3) (mC (.int 30)))) bf)) (gN 5)
    wO)
   wW)))
def mG:List PV->Option (Res PV)
 |[a0,a1,a2]=>fin (pN (startR [a0,a1,a2] 4))
 |_=>none
def pZ:Sn:=
 (cu (m2 pW (mV 6) (m2 DG (nO 3) (m2 gP (bF bI (az (mV 5) (az (mC (.int 302)) bf))) (mV 4)))) (gN 6))
def p6:Sn:=
 (cu (m2 DG (nO 3) (m2 gP (bF bI (az (mV 5) (az (mC (.int 302)) bf))) (mV 4))) (gN 6))
def kI:Sn:=
 (Fq 3 (mV 6))
def kJ:Sn:=
 (aY (j9 (Pb (m1 cY (m2 K5 (mV 4) (mC (.int 0)))) (m1 cY (m2 ph (mVL 7) (mC (.int 2)))))
     p6
     gh)
    kI)
def p7:Sn:=
 (aY (cu (bF dD (az (mV 0) (az (m2 dO (mC (.int 3)) (mV 4)) bf))) (gN 5))
    (aY (cu (bF mG (az (mV 1) (az (mV 5) (az (mV 4) bf)))) (gN 6))
    (aY (cu (m2 gP (bF bI (az (mV 5) (az (mC (.int 301)) bf))) (mC (.int 4))) (gN 7))
    (aY (j9 (Pb (m1 cY (m2 K5 (mV 4) (mC (.int 0)))) (m1 cY (m2 zV (mV 7) (mC (.int 2)))))
     pZ
     gh)
    kJ))))
def p8:Sn:=
 (lY 3)
def jP:Sn:=
 (aY (jg 3 (zR bf))
   (aY (oA (m1 nJ (az (mV 2) bf)) (gN 4)
    p7)
   p8))
def ik:List PV->Option (Res PV)
 |[a0,a1,a2]=>qb (jP (startR [a0,a1,a2] 5))
 |_=>none
def CQ:Sn:=
 (gj (mC .non))
def CT:Sn:=
 (gj (mC .non))
def tZ:Sn:=
 (cu (m2 Rr (mV 4) (bF jZ (az (mV 0) (az (m2 bU (mV 5) (mC (.int 2))) bf)))) (gN 4))
def t6:Sn:=
 (aY (j9 (m1 cY (m2 uq (m2 pW (bF jZ (az (mV 0) (az (m2 bU (mV 5) (mC (.int 2))) bf))) (mV 3)) (mC (.int 0))))
     CT
     gh)
    tZ)
def t7:Sn:=
 (aY (j9 (mOr (HR (m1 cY (m2 FW (mVL 5) (mC (.ty "tuple"))))) (mOr (m1 cY (m2 uq (m1 iW (mVL 5)) (mC (.int 3)))) (mOr (m1 cY (m2 uq (Rz (mV 5) mPn (m1 asInt (mC (.int 2)))) (nH (az (mC (.str "cut")) (az (mV 2) bf))))) (HR (m1 cY (bF rW (az (mV 0) (az (m2 bU (mV 5) (mC (.int 2))) bf))))))))
     CQ
     gh)
    t6)
def t8:Sn:=
 (gj (mV 4))
def nu:Sn:=
 (aY (cu (mC (.int 0)) (gN 4))
   (aY (oA (m1 kY (mV 1)) (gN 5)
    t7)
   t8))
def j6:List PV->Option (Res PV)
 |[a0,a1,a2,a3]=>fin (nu (startR [a0,a1,a2,a3] 2))
 |_=>none
def NB:Sn:=
 (cu (m2 dO (mV 5) (mC (.int 1))) (gN 5))
def Vn:Sn:=
 (gj (mC (.bl false)))
def Vo:Sn:=
 (gj (mC (.bl false)))
def NK:Sn:=
 (aY (lq 4 (m2 bU (mV 2) (mV 6)) (mV 8))
    (cu (m2 dO (mV 5) (mC (.int 1))) (gN 5)))
def NP:Sn:=
 (aY (cu (m2 bU (m2 bU (mV 3) (mV 5)) (mC (.int 1))) (gN 8))
    (aY (cu (Ai (b8 4) (mV 8) (m2 sX (m2 yx (mC (.int 1)) (m2 iT (m2 bU (mV 1) (mC (.int 0))) (m2 bU (mV 1) (mC (.int 1))))) (mC (.int 1)))) (gN 9))
    (aY (cu (m2 sX (mV 9) (m2 pW (mV 9) (m2 bU (mV 2) (mV 6)))) (gN 10))
    (aY (cu (bF j6 (az (mV 1) (az (Rw (nO 3) (m1 asInt (mV 7)) (m1 asInt (mV 5))) (az (mV 8) (az (m2 bU (mV 2) (mV 6)) bf))))) (gN 11))
    (aY (j9 (mOr (m1 cY (m2 Rt (mVL 11) (mC .non))) (mOr (m1 cY (m2 uq (m2 pW (mV 11) (mV 10)) (mVL 10))) (m1 cY (m2 uq (m2 sX (mV 5) (mV 7)) (m1 iW (m2 bU (bF cR (az (mV 1) (az (mV 10) (az (m2 bU (mV 2) (mV 6)) bf)))) (mC (.int 0))))))))
     Vo
     gh)
    NK)))))
def NQ:Sn:=
 (aY (j9 (mOr (m1 cY (m2 ph (mVL 5) (m1 iW (mVL 3)))) (mOr (m1 cY (m2 uq (m2 bU (m2 bU (mV 3) (mV 5)) (mC (.int 0))) (mC (.str "print")))) (m1 cY (m2 uq (m2 bU (m2 bU (mV 3) (mV 5)) (mC (.int 2))) (mVL 6)))))
     Vn
     gh)
    NP)
def NT:Sn:=
 (aY (cu (mV 5) (gN 7))
    (aY (kW (Pb (m1 cY (m2 zV (mV 5) (m1 iW (mVL 3)))) (m1 cY (m2 ph (m2 bU (m2 bU (mV 3) (mV 5)) (mC (.int 0))) (mC (.str "cut")))))
     NB 600)
    NQ))
def NZ:Sn:=
 (gj (m2 ph (mVL 5) (m1 iW (mVL 3))))
def N5:Sn:=
 (aY (cu (bF j5 (az (bF dD (az (mV 0) (az (mC (.int 1)) bf))) bf)) (gN 1))
   (aY (cu (bF ik (az (mV 0) (az (mV 1) (az (m2 dO (mC (.int 1)) (m2 gP (bF bI (az (bF dD (az (mV 0) (az (mC (.int 2)) bf))) (az (mC (.int 1)) bf))) (mC (.int 8)))) bf)))) (gN 2))
   (aY (cu (bF rZ (az (mV 1) (az (mV 2) bf))) (gN 3))
   (aY (jg 4 vI)
   (aY (cu (mC (.int 0)) (gN 5))
   (aY (oA (m1 nJ (az (m1 iW (mVL 2)) bf)) (gN 6)
    NT)
   NZ))))))
def El:List PV->Option (Res PV)
 |[a0]=>fin (N5 (startR [a0] 11))
 |_=>none
local macro_rules|`(tactic| walk_at "rd")=>do
 let ids:=("onNx_nx onNx_rt onNx_ro onNx_rd onNx_bk onNx_ct tv_some to_nx to_rt to_ro to_rd to_bk to_ct tv_ite to_ite turn_nx turn_ct turn_bk turn_rt turn_ro turn_rd tv_bnd to_bnd to_seq tv_m2 tv_m1 tv_var tv_lend tv_c tv_view tv_viewN tv_asLst tv_nil tv_cons tv_tup tv_lst tv_call tv_mIf tv_mAnd tv_mOr tv_mNot tv_and tv_chain tv_comp tv_compN tv_compC tv_yes to_next to_cont to_ret to_retO to_hold to_frzD to_retT tv_ownD tv_callT holdQ_nx holdQ_rt holdQ_ro tv_holdE tv_dkeys tv_ditems tv_sort tv_sortD to_io2 to_setO to_setD to_retDp tv_deep tv_still tv_fz to_asgN to_asg to_if to_for to_retOw to_app tv_neg tv_newD tv_viewD tv_viewDN tv_dget1 tv_dget2 tv_opDGet tv_opDIn tv_opDNotIn tv_dictP tv_newT tv_inv to_dput dF_int dF_str dF_tup isD_dk isD_dt is_dk_int is_dk_str finIO_nx to_never tv_sub tv_and' tv_or' tv_gt tv_ge tv_div tv_mod tv_pow tv_shl tv_shr tv_add tv_addS tv_addT tv_mul tv_mulS tv_lt tv_ltS tv_le tv_leS tv_eqI tv_eqS tv_neI tv_neS tv_eq tv_ne tv_notin tv_isN tv_notN tv_ixL tv_ixT tv_ixV tv_ixS tv_lenS tv_lenL tv_lenT tv_is tv_asBl tv_not tv_list tv_cat tv_asSeqL tv_asSeqT tv_asSeqS tv_rng1 tv_rng2 tv_enum tv_zip tv_pn tv_asInt tv_slL tv_slT tv_opSlT tv_all startR fin_nx fin_rt finO_ro finT_rd gN gT gsCons gsNil szP cellP List.map_cons List.map_nil List.replicate_succ List.replicate_zero List.cons_append List.nil_append List.append_nil List.getElem?_cons_zero List.getElem?_cons_succ List.set_cons_zero List.set_cons_succ List.length_cons List.length_nil Nat.zero_le true_and and_true Option.some.injEq Sl.sh.injEq Sl.ow.injEq Sl.dp.injEq Res.ok.injEq PV.int.injEq PV.str.injEq PV.bl.injEq PV.lst.injEq PV.tup.injEq exists_eq_left' exists_eq_left exists_eq and_assoc exists_and_left if_true if_false not_true_eq_false not_false_eq_true Bool.false_eq_true Bool.not_true Bool.not_false decide_eq_true_eq Bool.not_eq_true' decide_eq_false_iff_not reduceCtorEq is_non_int is_non_bool is_non_str is_non_list is_non_tuple is_non_dict is_bl_int is_bl_bool is_bl_str is_bl_list is_bl_tuple is_bl_dict is_int_int is_int_bool is_int_str is_int_list is_int_tuple is_int_dict is_str_int is_str_bool is_str_str is_str_list is_str_tuple is_str_dict is_tup_int is_tup_bool is_tup_str is_tup_list is_tup_tuple is_tup_dict is_lst_int is_lst_bool is_lst_str is_lst_list is_lst_tuple is_lst_dict Int.reduceAdd Int.reduceSub Int.reduceMul Int.reduceNeg Int.reduceToNat atI_0 atI_1 atI_2 atI_3 snocI snocS snocC eqF_int eqF_str eqF_bl frR shOnly".splitOn " ").toArray.map λs=>Lean.mkIdent s.toName
 `(tactic| simp(maxSteps:=2000000) only[$[$ids:ident],*])
structure Sz(w h:Int):Prop where
 w0:1<=w
 w1:w<=24
 h0:1<=h
 h1:h<=24
theorem Sz.mul{w h:Int}(s:Sz w h):1<=w*h/\w*h<=576:=by
 obtain⟨a,b,c,d⟩:=s;have e1:1*1<=w*h:=ZcR a c (by decide) (by lia)
 have e2:w*h<=24*24:=ZcR b d (by lia) (by decide)
 lia
theorem Sz.at{w h c r:Int}(_:Sz w h)(c0:0<=c)(c1:c<w)(r0:0<=r)(r1:r<h):0<=r*w+c/\r*w+c<w*h:=by
 have e1:0<=r*w:=Zc7 r0 (by lia)
 have e2:(r+1)*w<=h*w:=Int.mul_le_mul_of_nonneg_right (by lia) (by lia)
 rw[Int.add_mul,Int.one_mul] at e2;rw[Int.mul_comm w h];lia
theorem Sz.nat{w h:Int}(s:Sz w h):w.toNat*h.toNat=(w*h).toNat/\w.toNat*h.toNat<=576:=by
 have hm:=s.mul;obtain⟨a,b,c,d⟩:=s;obtain⟨x,rfl⟩:=ZaX (show 0<=w by omega)
 obtain⟨y,rfl⟩:=ZaX (show 0<=h by omega)
 have e:(x:Int)*(y:Int)=((x*y:Nat):Int):=by simp
 rw[e] at hm ⊢;simp only[ZaD];have h2:((x*y:Nat):Int)<=((576:Nat):Int):=hm.2;exact⟨trivial,Int.ofNat_le.mp h2⟩
structure Cell(w h c r:Int):Prop where
 c0:0<=c
 c1:c<w
 r0:0<=r
 r1:r<h
theorem Cell.inR{w h c r:Int}(z:Cell w h c r):Mth.InR w.toNat h.toNat (c,r):=⟨z.c0,by have:=z.c1;show c<(w.toNat:Int);omega,z.r0,by have:=z.r1;show r<(h.toNat:Int);omega⟩
theorem Cell.of{w h:Int}{c:Int×Int}(z:Mth.InR w.toNat h.toNat c):Cell w h c.1 c.2:=⟨z.c0,by have:=z.c1;have:=z.c0;lia,z.r0,by have:=z.r1;have:=z.r0;lia⟩
theorem Cell.pl{w h c r:Int}(z:Cell w h c r):(r*w+c).toNat=Mth.pl w.toNat (c,r)/\0<=r*w+c:=by
 obtain⟨c0,c1,r0,r1⟩:=z;obtain⟨a,rfl⟩:=ZaX c0;obtain⟨b,rfl⟩:=ZaX r0;obtain⟨v,rfl⟩:=ZaX (show 0<=w by omega)
 unfold Mth.pl;simp only[ZaD];have e:(b:Int)*(v:Int)+(a:Int)=((b*v+a:Nat):Int):=by simp
 rw[e,ZaD];exact⟨rfl,Za1 _⟩
theorem Ln{w:Int}(hw:1<=w)(i:Nat):Mth.cellOf w.toNat i=((0+(i:Int))%w,(0+(i:Int))/w):=by
 obtain⟨v,rfl⟩:=ZaX (show 0<=w by omega)
 unfold Mth.cellOf;simp
theorem Em(a b:Nat):Builtin.bitOr (a:Int) (b:Int)=((a ||| b:Nat):Int):=by
 have n1:∀ x:Nat,¬0<=Builtin.bitNot (x:Int):=λx=>by unfold Builtin.bitNot;omega
 unfold Builtin.bitOr;rw[bitAnd_nn (n1 a) (n1 b),bitNot_bitNot,bitNot_bitNot,bitNot_bitNot,ZaD,ZaD]
theorem Vp(n p:Nat):decide (Builtin.bitAnd ((n:Int)/2^p) 1=1)=n.testBit p:=by
 have e:(n:Int)/2^p=((n/2^p:Nat):Int):=by simp
 rw[e,bitAnd_pp (Za1 _) (by decide),ZaD,show(1:Int).toNat=1 from rfl,Mth.Uy]
 cases n.testBit p<;>rfl
theorem Gm{lo:Int}{n i:Nat}{x:PV}(h:(pq lo n)[i]?=some x):i<n/\x=.int (lo+(i:Int)):=by
 have hi:i<n:=by simpa[pq] using cF h
 unfold pq at h;rw[Zac,Zbh hi] at h;exact⟨hi,(Zaf h).symm⟩
theorem Vq{lo:Int}{n:Nat}{x:PV}(h:x∈pq lo n):∃ i:Nat,i<n/\x=.int (lo+(i:Int)):=by
 unfold pq at h;obtain⟨i,hi,e⟩:=Zai.mp h;exact⟨i,Zay.mp hi,e.symm⟩
theorem take_snoc{α:Type}{l:List α}{i:Nat}{x:α}(h:l[i]?=some x):l.take (i+1)=l.take i++[x]:=by
 rw[List.take_succ,h];rfl
theorem oH{w h c r:Int}(sz:Sz w h)(cl:Cell w h c r):jG [.tup [.int w,.int h],.tup [.int c,.int r]]=some (.ok (.int (r*w+c))):=by
 refine iG ?_;unfold uE;walk_at "rd"
 have:=cl.r0;have:=cl.r1;have:=sz.h1;exact .inl ⟨by lia,by lia⟩
theorem Td{w h c r:Int}(sz:Sz w h)(cl:Cell w h c r)(n:Nat):jH [.tup [.int w,.int h],.int n,.tup [.int c,.int r]]=some (.ok (.bl (n.testBit (Mth.pl w.toNat (c,r))))):=by
 refine iG ?_;unfold uF;walk_at "rd"
 obtain⟨e1,e2⟩:=cl.pl;rw[oH sz cl];walk_at "rd"
 rw[e1,Vp];exact⟨e2,rfl⟩
theorem Gn{w h:Int}(sz:Sz w h):m6 [.tup [.int w,.int h]]=some (.ok (.lst ((Mth.pick w.toNat (w.toNat*h.toNat) λ_=>true).map cellP))):=by
 refine rQ ?_;unfold qL;walk_at "rd"
 have hm:=sz.mul;have hn:=sz.nat;have w0:=sz.w0;have w1:=sz.w1;refine⟨.inl ⟨by lia,by lia⟩,by lia,by lia,by rw[iU];exact ZaA (bY (by lia)),?_⟩
 rw[Zk (λx=>match x with|.int i=>cellP (i%w,i/w)|_=>.non)]
 ·walk_at "rd"
  rw[<-hn.1];unfold pq Mth.pick;rw[ZaS,ZaS,Zbw.mpr λ_ _=>rfl];refine Za3 λi _=>?_;show _=cellP (Mth.cellOf w.toNat i)
  rw[Ln w0];rfl
 ·intro x hx;obtain⟨i,hi,rfl⟩:=Vq hx;walk_at "rd"
  exact⟨by lia,by lia,by lia,by decide⟩
theorem En{w h:Int}(sz:Sz w h)(ps:List (Int×Int))(hc:∀ c∈ps,Cell w h c.1 c.2):oM [.tup [.int w,.int h],.lst (ps.map cellP)]=some (.ok (.int (Mth.xK w.toNat ps))):=by
 refine iG ?_;unfold Bt;walk_at "rd"
 refine dJ (λi Z=>∃ v,Z=[some (.sh (.tup [.int w,.int h])),some (.sh (.lst (ps.map cellP))),some (.sh (.int (Mth.xK w.toNat (ps.take i)))),v]) ⟨none,rfl⟩ ?_ ?_
 ·rintro i x Z hx ⟨v,rfl⟩;rw[Zac] at hx;cases hd:ps[i]? with
  |none=>rw[hd] at hx;cases hx
  |some d=>
   rw[hd] at hx;cases hx;have cl:=hc d (Zak hd);obtain⟨e1,e2⟩:=cl.pl;have hm:=sz.mul;have ha:=sz.at cl.c0 cl.c1 cl.r0 cl.r1;unfold Br;walk_at "rd"
   rw[oH sz cl];walk_at "rd"
   have e3:(1:Int)*2^Mth.pl w.toNat (d.1,d.2)=((2^Mth.pl w.toNat d:Nat):Int):=by simp
   rw[e1,e3,Em,take_snoc hd,Mth.O3];exact⟨by lia,by lia,by decide,_,rfl⟩
 ·rintro Z ⟨v,rfl⟩;unfold Bs;walk_at "rd"
  rw[List.take_of_length_le (by simp)]
theorem qT{w h:Int}(sz:Sz w h)(n:Nat):iH [.tup [.int w,.int h],.int n]=some (.ok (.lst ((Mth.pick w.toNat (w.toNat*h.toNat) λi=>n.testBit i).map cellP))):=by
 refine rQ ?_;unfold uG;walk_at "rd"
 rw[Gn sz];walk_at "rd"
 have hn:=sz.nat;refine⟨by rw[Zab];exact ZaI (Mth.nY _ _ _) (ZaA (bY (by lia))),?_⟩
 rw[Zm (λx=>match x with|.tup [.int c,.int r]=>n.testBit (Mth.pl w.toNat (c,r))|_=>false) id]
 ·walk_at "rd"
  rw[List.map_id];unfold Mth.pick;rw[Zbw.mpr λ_ _=>rfl,ZaS,List.filter_map,ZaS];congr 1
  refine ZcV λi hi=>?_;show n.testBit (Mth.pl w.toNat ((Mth.cellOf w.toNat i).1,(Mth.cellOf w.toNat i).2))=_
  rw[show Mth.pl w.toNat ((Mth.cellOf w.toNat i).1,(Mth.cellOf w.toNat i).2)=i from Mth.rC _ _]
 ·intro x hx;obtain⟨c,hc,rfl⟩:=Zai.mp hx;unfold Mth.pick at hc;obtain⟨i,hi,rfl⟩:=Zai.mp hc;have hi:i<w.toNat*h.toNat:=by simpa using hi
  have cl:=Cell.of (Mth.xJ hi);walk_at "rd"
  rw[Td sz cl];walk_at "rd"
 ·intro x hx _;walk_at "rd"
  rfl
theorem Jx{f:PV->PV->Option Bool}:∀ {l:List PV},(∀ x∈l,f x x=some true)->eqL f l l=some true
 |[],_=>rfl
 |x::xs,h=>by rw[eqL,h x Zax,Jx λy hy=>h y (Zat _ hy)];rfl
theorem Te{n:Nat}{l:List PV}(h:∀ x∈l,eqF n x x=some true):eqF (n+1) (.tup l) (.tup l)=some true:=by
 exact Jx h
theorem Tf(n:Nat)(z:Str):eqF n (.str z) (.str z)=some true:=by rw[eqF_str,ZaF rfl]
theorem Jy(n:Nat)(z:Int):eqF n (.int z) (.int z)=some true:=by rw[eqF_int,ZaF rfl]
theorem wX{α:Type}{j:Nat}{el:Fn PV}{ρb:Rho}(g f:α->PV):∀ (l:List α),(∀ a∈l,Tv (el (ρb.set j (some (.sh (g a))))) λp=>p=f a)->fM (gN j) sJ el ρb (l.map g)=some (.ok (l.map f))
 |[],_=>rfl
 |a::l,h=>by
  have e1:=fC (h a Zax);have ih:=wX g f l λb hb=>h b (Zat _ hb);rw[Zaq,fM];simp only[gN,sJ,bnd,ZbA,e1,ih,Zaq]
def lO(row:Bool):Str:=if row then Str.ofString "row" else Str.ofString "column"
def qe(row:Bool)(l f t:Int):PV:=.tup [.str (lO row),.int l,.int f,.int t]
structure On(w h:Int)(row:Bool)(l f t:Int):Prop where
 l0:0<=l
 l1:l<if row then h else w
 f0:0<=f
 ft:f<=t
 t1:t<if row then w else h
def bV(row:Bool)(l:Int)(p:Int):Int×Int:=if row then(p,l) else(l,p)
def dz(row:Bool)(l f t:Int):List (Int×Int):=(List.range (t+1-f).toNat).map λ(i:Nat)=>bV row l (f+(i:Int))
theorem Vr(row:Bool):decide (lO row=Str.ofString "row")=row:=by cases row<;>decide +kernel
theorem On.cell{w h:Int}{row:Bool}{l f t:Int}(o:On w h row l f t){c:Int×Int}(hc:c∈dz row l f t):Cell w h c.1 c.2:=by
 obtain⟨i,hi,rfl⟩:=Zai.mp hc;have hi:=Zay.mp hi;obtain⟨l0,l1,f0,ft,t1⟩:=o;unfold bV;cases row
 ·exact⟨l0,l1,by show 0<=f+(i:Int);omega,by show f+(i:Int)<h;have t1:t<h:=t1;omega⟩
 ·exact⟨by show 0<=f+(i:Int);omega,by show f+(i:Int)<w;have t1:t<w:=t1;omega,l0,l1⟩
theorem Vs(i:Int):pJ [.int i]=some (.ok (.bl true)):=by
 refine iG (x:=pI (startR [.int i] 0)) ?_;unfold pI;walk_at "rd"
theorem Lp{row:Bool}{l f t:Int}(h:f<=t):m9 [qe row l f t]=some (.ok (.bl true)):=by
 refine iG (x:=m8 (startR [qe row l f t] 0)) ?_;unfold m8 qe;walk_at "rd"
 unfold tO;walk_at "rd"
 refine⟨by decide,_,Gk (g:=PV.str) (λa b=>eqF_str 31 a b) (lO row) [Str.ofString "row",Str.ofString "column"],?_⟩
 have:decide (lO row∈[Str.ofString "row",Str.ofString "column"])=true:=by cases row<;>decide +kernel
 rw[this];walk_at "rd"
 unfold tM;walk_at "rd"
 rw[show ur [PV.str (lO row),PV.int l,PV.int f,PV.int t] (some 1) none=[l,f,t].map PV.int from rfl];refine⟨by decide,ZaA (bY (show 3<=1000 by decide)),?_⟩
 rw[wX PV.int (λ_=>.bl true) _ λi _=>?_]
 ·walk_at "rd"
  refine⟨[true,true,true],rfl,?_⟩;rw[Zam (by rfl)]
  exact h
 ·walk_at "rd"
  rw[Vs];walk_at "rd"
theorem Jz(w h:Int)(row:Bool):jJ [.tup [.int w,.int h],.str (lO row)]=some (.ok (.int (if row then h else w))):=by
 refine iG (x:=pL (startR [.tup [.int w,.int h],.str (lO row)] 0)) ?_;unfold pL;walk_at "rd"
 cases row
 ·rw[Zal (by decide +kernel)];rfl
 ·rw[Zam (by rfl)];rfl
theorem Eo(w h:Int)(row:Bool):jc [.tup [.int w,.int h],.str (lO row)]=some (.ok (.int (if row then w else h))):=by
 refine iG (x:=ni (startR [.tup [.int w,.int h],.str (lO row)] 0)) ?_;unfold ni;walk_at "rd"
 cases row
 ·rw[Zal (by decide +kernel)];rfl
 ·rw[Zam (by rfl)];rfl
theorem Vt{w h:Int}{row:Bool}{l f t:Int}(hft:f<=t):rW [.tup [.int w,.int h],qe row l f t]=some (.ok (.bl (decide (0<=l/\(l<if row then h else w)/\0<=f/\t<if row then w else h)))):=by
 refine iG (x:=rT (startR [.tup [.int w,.int h],qe row l f t] 0)) ?_;unfold rT;walk_at "rd"
 rw[Lp hft];walk_at "rd"
 unfold yH qe;walk_at "rd"
 rw[Jz,Eo];walk_at "rd"
 generalize (if row then h else w)=L
 generalize (if row then w else h)=P
 refine xH (λh1=>xH (λh2=>xH (λh3=>?_) λh3=>?_) λh2=>?_) λh1=>?_
 ·rw[decide_eq_decide];exact⟨λh=>⟨h1,h2,h3,h⟩,λh=>h.2.2.2⟩
 ·exact(ZaH λh=>h3 h.2.2.1).symm
 ·exact(ZaH λh=>h2 h.2.1).symm
 ·exact(ZaH λh=>h1 h.1).symm
theorem xU{row:Bool}{l f t:Int}(f0:0<=f)(ft:f<=t)(t1:t<=1000):cX [qe row l f t]=some (.ok (.lst ((dz row l f t).map cellP))):=by
 refine rQ (x:=jw (startR [qe row l f t] 0)) ?_;unfold jw qe;walk_at "rd"
 have key:pq f (t+1-f).toNat=(List.range (t+1-f).toNat).map λi=>PV.int (f+((i:Nat):Int)):=rfl;have len:((List.range (t+1-f).toNat).map λi=>PV.int (f+((i:Nat):Int))).length<=sizeLine:=by
  rw[Zab,ZaB];exact ZaI (show _<=1001 by lia) (by decide)
 by_cases hr:row=true
 ·subst hr;rw[Zam (by rfl)]
  unfold oR;walk_at "rd"
  rw[key];refine⟨by lia,by lia,by lia,by lia,len,?_⟩
  rw[wX (λi=>PV.int (f+((i:Nat):Int))) (λi=>cellP (bV true l (f+((i:Nat):Int)))) _ λi _=>?_]
  ·walk_at "rd"
   unfold dz;rw[ZaS];rfl
  ·walk_at "rd"
   exact⟨by decide,rfl⟩
 ·have hr:row=false:=by simpa using hr
  subst hr;rw[Zal (by decide +kernel)]
  unfold oU;walk_at "rd"
  rw[key];refine⟨by lia,by lia,by lia,by lia,len,?_⟩
  rw[wX (λi=>PV.int (f+((i:Nat):Int))) (λi=>cellP (bV false l (f+((i:Nat):Int)))) _ λi _=>?_]
  ·walk_at "rd"
   unfold dz;rw[ZaS];rfl
  ·walk_at "rd"
   exact⟨by decide,rfl⟩
theorem wY{w h:Int}(sz:Sz w h){row:Bool}{l f t:Int}(o:On w h row l f t):jZ [.tup [.int w,.int h],qe row l f t]=some (.ok (.int (Mth.xK w.toNat (dz row l f t)))):=by
 have t24:t<=1000:=by
  have q:=o.t1;have:=sz.w1;have:=sz.h1;split at q<;>omega
 refine iG (x:=nj (startR [.tup [.int w,.int h],qe row l f t] 0)) ?_;unfold nj;walk_at "rd"
 rw[xU o.f0 o.ft t24];walk_at "rd"
 rw[En sz _ λc hc=>o.cell hc];walk_at "rd"
theorem bQ:∀ {l k:List Nat},l.Nodup->(∀ x∈l,x∈k)->l.length<=k.length
 |[],k,_,_=>Za4 _
 |a::l,k,nd,h=>by
  have ha:a∈k:=h a Zax;have nd':=Zbs.mp nd;have:=bQ (l:=l) (k:=k.erase a) nd'.2 λx hx=>(Zcd (λe:x=a=>nd'.1 (by rw[<-e];exact hx))).mpr (h x (Zat _ hx))
  rw[Zcn ha] at this;have:0<k.length:=List.length_pos_of_mem ha;simp only[ZaP];lia
structure Mt(G:Nat->Nat->Prop)(m:Nat->Option Nat):Prop where
 ok:∀ {j i},m j=some i->i<j/\G i j
 inj:∀ {j k i},m j=some i->m k=some i->j=k
inductive Anc(m:Nat->Option Nat):Nat->Nat->Prop
 |one {i j} (h:m j=some i):Anc m i j
 |more {i j k} (h:m j=some k) (a:Anc m i k):Anc m i j
section
variable{G:Nat->Nat->Prop}{m:Nat->Option Nat}
theorem Anc.rel(M:Mt G m)(tr:∀ {i j k},G i j->G j k->G i k){i j:Nat}(a:Anc m i j):G i j:=by
 induction a with
 |one h=>exact(M.ok h).2
 |more h _ ih=>exact tr ih (M.ok h).2
theorem Anc.of(M:Mt G m){i j:Nat}(a:Anc m i j):∃ x,x<=j/\m x=some i:=by
 induction a with
 |one h=>exact⟨_,Zan _,h⟩
 |more h _ ih=>obtain⟨x,h1,h2⟩:=ih;exact⟨x,by have:=(M.ok h).1;omega,h2⟩
theorem N6(M:Mt G m):∀ j,∃ r,m r=none/\(r=j\/Anc m r j):=by
 intro j;induction j using Nat.strongRecOn with
 |_ j ih=>
  cases h:m j with
  |none=>exact⟨j,h,.inl rfl⟩
  |some i=>
   obtain⟨r,h1,h2⟩:=ih i (M.ok h).1;refine⟨r,h1,.inr ?_⟩;rcases h2 with rfl|h2
   ·exact .one h
   ·exact .more h h2
theorem Ep(M:Mt G m){r:Nat}(hr:m r=none):∀ j i,i<j->(r=i\/Anc m r i)->(r=j\/Anc m r j)->Anc m i j:=by
 intro j;induction j using Nat.strongRecOn with
 |_ j ih=>
  intro i hij hi hj;have le:∀ {a b:Nat},Anc m a b->a<b:=λ{a b} h=>by
   induction h with
   |one h=>exact(M.ok h).1
   |more h _ ih=>have:=(M.ok h).1;omega
  rcases hj with rfl|hj
  ·rcases hi with rfl|hi
   ·omega
   ·have:=le hi;omega
  ·obtain⟨k,hk,hrk⟩:∃ k,m j=some k/\(r=k\/Anc m r k):=by
    cases hj with
    |one h=>exact⟨r,h,.inl rfl⟩
    |more h a=>exact⟨_,h,.inr a⟩
   have kj:=(M.ok hk).1;rcases Nat.lt_trichotomy i k with h|h|h
   ·exact .more hk (ih k kj i h hi hrk)
   ·subst h;exact .one hk
   ·obtain⟨x,h1,h2⟩:=(ih i hij k h hrk hi).of M;have:=M.inj h2 hk;omega
theorem ZR(M:Mt G m)(tr:∀ {i j k},G i j->G j k->G i k){n:Nat}{A:List Nat}(nd:A.Nodup)(lt:∀ a∈A,a<n)(ap:∀ a∈A,∀ b∈A,a<b->¬G a b) :
  A.length<=((List.range n).filter λj=>(m j).isNone).length:=by
 have le:∀ {a b:Nat},Anc m a b->a<b:=λ{a b} h=>by
  induction h with
  |one h=>exact(M.ok h).1
  |more h _ ih=>have:=(M.ok h).1;omega
 have:∃ f:Nat->Nat,∀ j,m (f j)=none/\(f j=j\/Anc m (f j) j):=⟨λj=>Classical.choose (N6 M j),λj=>Classical.choose_spec (N6 M j)⟩;obtain⟨f,hf⟩:=this;have inj:∀ a∈A,∀ b∈A,f a=f b->a=b:=λa ha b hb e=>by
  rcases Nat.lt_trichotomy a b with h|h|h
  ·exact absurd ((Ep M (hf a).1 b a h (hf a).2 (by rw[e];exact(hf b).2)).rel M tr) (ap a ha b hb h)
  ·exact h
  ·exact absurd ((Ep M (hf b).1 a b h (hf b).2 (by rw[<-e];exact(hf a).2)).rel M tr) (ap b hb a ha h)
 have nd2:(A.map f).Nodup:=by
  rw[List.Nodup,Zbj];exact nd.imp_of_mem λ{a b} ha hb hne e=>hne (inj a ha b hb e)
 have:=bQ (l:=A.map f) (k:=(List.range n).filter λj=>(m j).isNone) nd2 λx hx=>by
  obtain⟨a,ha,rfl⟩:=Zai.mp hx;refine Zav.mpr ⟨Zay.mpr ?_,by rw[(hf a).1];rfl⟩
  rcases(hf a).2 with e|e
  ·rw[e];exact lt a ha
  ·exact Nat.lt_trans (le e) (lt a ha)
 simpa using this
end
def lk:List (Nat×Nat)->Nat->Option Nat
 |[],_=>none
 |p::l,k=>if p.1=k then some p.2 else lk l k
def ptN:List (Nat×Nat)->Nat->Nat->List (Nat×Nat)
 |[],k,v=>[(k,v)]
 |p::l,k,v=>if p.1=k then(k,v)::l else p::ptN l k v
theorem fW(k v j:Nat):∀ l,lk (ptN l k v) j=if j=k then some v else lk l j
 |[]=>by
  unfold ptN lk lk;by_cases h:j=k
  ·rw[Zam h,Zam h.symm]
  ·rw[Zal h,Zal (Zbl h)]
 |p::l=>by
  unfold ptN;by_cases h:p.1=k
  ·rw[Zam h];unfold lk;by_cases hj:j=k
   ·rw[Zam hj,Zam hj.symm]
   ·rw[Zal hj,Zal (Zbl hj),Zal (λe=>hj (e.symm.trans h))]
  ·rw[Zal h];unfold lk;rw[fW k v j l];by_cases hj:j=k
   ·rw[Zam hj,Zal (λe=>h (e.trans hj)),Zam hj]
   ·simp only[Zal hj]
theorem Lq(k v:Nat):∀ l,lk l k=none->ptN l k v=l++[(k,v)]
 |[],_=>rfl
 |p::l,h=>by
  unfold lk at h;split at h
  ·cases h
  ·rename_i hp;unfold ptN;rw[Zal hp,Lq k v l h];rfl
theorem lQ{k:Nat}:∀ {l},lk l k=none↔k ∉ l.map (·.1)
 |[]=>by simp[lk]
 |p::l=>by
  unfold lk;by_cases h:p.1=k
  ·simp[h]
  ·rw[Zal h,lQ];simp[Zbl h]
theorem BP{k v:Nat}:∀ {l},lk l k=some v->(k,v)∈l
 |p::l,h=>by
  unfold lk at h;split at h
  ·rename_i hp;cases h;subst hp;exact Zax
  ·exact Zat _ (BP h)
theorem yK{k v:Nat}:∀ {l:List (Nat×Nat)},(l.map (·.1)).Nodup->(k,v)∈l->lk l k=some v
 |p::l,nd,h=>by
  rw[Zaq,Zbs] at nd;unfold lk;rcases ZaC.mp h with e|h
  ·subst e;rw[Zam rfl]
  ·rw[Zal λe=>nd.1 (by rw[e];exact Zai.mpr ⟨_,h,rfl⟩)];exact yK nd.2 h
theorem zq(k v:Nat):∀ l,(ptN l k v).map (·.1)=if lk l k=none then l.map (·.1)++[k] else l.map (·.1)
 |[]=>rfl
 |p::l=>by
  unfold ptN lk;by_cases h:p.1=k
  ·rw[Zam h,Zam h];simp[h]
  ·rw[Zal h,Zal h,Zaq,zq k v l];split<;>simp
theorem Gp(k v:Nat)(l:List (Nat×Nat)):(ptN l k v).length<=l.length+1:=by
 have:=ZaY List.length (zq k v l);rw[Zab] at this;rw[this];split<;>simp
def kvQ{κ:Type}(fk:Nat->κ)(fv:Nat->PV)(l:List (Nat×Nat)):List (κ×PV):=l.map λp=>(fk p.1,fv p.2)
theorem mH{κ:Type}[DecidableEq κ]{fk:Nat->κ}{fv:Nat->PV}(inj:∀ a b,fk a=fk b->a=b)(k:Nat):∀ l,cI (kvQ fk fv l) (fk k)=(lk l k).map fv
 |[]=>rfl
 |p::l=>by
  show cI ((fk p.1,fv p.2)::kvQ fk fv l) _=_
  unfold cI lk;by_cases h:p.1=k
  ·subst h;rw[Zam rfl,Zam rfl];rfl
  ·rw[Zal (λe=>h (inj _ _ e)),Zal h];exact mH inj k l
theorem qU{κ:Type}[DecidableEq κ]{fk:Nat->κ}{fv:Nat->PV}(inj:∀ a b,fk a=fk b->a=b)(k v:Nat):∀ {l:List (Nat×Nat)},(l.map (·.1)).Nodup->gY (kvQ fk fv l) (fk k) (fv v)=kvQ fk fv (ptN l k v)
 |[],_=>rfl
 |p::l,nd=>by
  rw[Zaq,Zbs] at nd;show gY ((fk p.1,fv p.2)::kvQ fk fv l) _ _=_
  unfold gY ptN;by_cases h:p.1=k
  ·subst h;have:((kvQ fk fv l).any λe=>decide (e.1=fk p.1))=false:=by
    rw[List.any_eq_false];intro x hx;obtain⟨q,hq,rfl⟩:=Zai.mp hx;simp only[decide_eq_true_eq];exact λe=>nd.1 (by rw[<-inj _ _ e];exact Zai.mpr ⟨q,hq,rfl⟩)
   rw[Zam rfl,Zam rfl,this];rfl
  ·rw[Zal (λe=>h (inj _ _ e)),Zal h,qU inj k v nd.2];rfl
theorem zr{κ:Type}{fk:Nat->κ}{fv:Nat->PV}(l:List (Nat×Nat)):(kvQ fk fv l).length=l.length:=by simp[kvQ]
theorem CV{k:Nat}(h:k<=100000):k<sizeLine:=by rw[sizeLine_eq];lia
theorem JB(ns:List Int):gm (ns.map PV.int)=some (ns.map .inl):=by
 induction ns with
 |nil=>rfl
 |cons n ns ih=>rw[Zaq];unfold gm;rw[ih];rfl
theorem xV(p:Sk):gm (.str p.1::p.2.map PV.int)=some (skK p):=by
 unfold gm;rw[JB];rfl
theorem zu{p q:Sk}(e:skK p=skK q):p=q:=by
 unfold skK at e;rw[ZbJ] at e;refine Zc5 (Sum.inr.inj e.1) ((List.map_inj_right λ_ _ h=>Zb3 h).mp e.2)
theorem BR(p:Sk):(skP p).still=true:=by
 show(PV.str p.1::p.2.map PV.int).all (uh 4)=true
 rw[ZaT];intro x hx;rcases ZaC.mp hx with e|hx
 ·rw[e];rfl
 ·obtain⟨n,_,rfl⟩:=Zai.mp hx;rfl
theorem Tg{l:List (List Key×PV)}{p:Sk}:dY (.dt l) (skP p)=some (cI l (skK p)):=by
 show(gm (.str p.1::p.2.map PV.int)).map (cI l)=_
 rw[xV];rfl
theorem Wt{l:List (List Key×PV)}{p:Sk}{q:PV}(h:l.length<sizeLine):yR (.dt l) (skP p) q=some (.dt (gY l (skK p) q)):=by
 show(match gm (.str p.1::p.2.map PV.int) with
  |some k=>if l.length<sizeLine then some (PV.dt (gY l k q)) else none
  |none=>none)=_
 rw[xV];exact Zam h
structure Gs where
 aS:Nat->Sk
 gS:Nat->Sk
 ia:∀ a b,aS a=aS b->a=b
 ig:∀ a b,gS a=gS b->a=b
 la:∀ a,(aS a).2.length=3
 lg:∀ a,(gS a).2.length=3
def Gs.av(G:Gs)(a:Nat):PV:=skP (G.aS a)
def Gs.gv(G:Gs)(a:Nat):PV:=skP (G.gS a)
def Gs.aK(G:Gs)(a:Nat):List Key:=skK (G.aS a)
def Gs.gK(G:Gs)(a:Nat):List Key:=skK (G.gS a)
def Gs.GA(G:Gs)(l:List (Nat×Nat)):PV:=.dt (kvQ G.aK G.gv l)
def Gs.GD(G:Gs)(l:List (Nat×Nat)):PV:=.dt (kvQ G.gK G.av l)
def Gs.AL(G:Gs)(l:List Nat):List PV:=l.map G.av
def Gs.GL(G:Gs)(l:List Nat):List PV:=l.map G.gv
section
variable(G:Gs)
theorem Gs.aKi(a b:Nat)(e:G.aK a=G.aK b):a=b:=G.ia _ _ (zu e)
theorem Gs.gKi(a b:Nat)(e:G.gK a=G.gK b):a=b:=G.ig _ _ (zu e)
theorem Gs.still(g:Nat):(G.gv g).still=true:=BR _
theorem Gs.Th(a:Nat):(G.av a).still=true:=BR _
theorem Gs.nn(g:Nat):(G.gv g).qz=false:=rfl
theorem Gs.isD(l:List (Nat×Nat)):(G.GD l).isD=true:=rfl
theorem Gs.sh(l:List (Nat×Nat)):PV.lM (G.GD l)=true:=ZaT.mpr λp hp=>by
 obtain⟨n,_,rfl⟩:=Zai.mp hp;exact G.Th _
theorem Gs.shA(l:List Nat):PV.lM (.lst (G.AL l))=true:=ZaT.mpr λp hp=>by
 obtain⟨n,_,rfl⟩:=Zai.mp hp;exact G.Th _
theorem Gs.find(l:List (Nat×Nat))(g:Nat):dY (G.GD l) (G.gv g)=some ((lk l g).map G.av):=Tg.trans (ZaY some (mH G.gKi g l))
theorem Gs.N7(l:List (Nat×Nat))(a:Nat):dY (G.GA l) (G.av a)=some ((lk l a).map G.gv):=Tg.trans (ZaY some (mH G.aKi a l))
theorem Gs.put(l:List (Nat×Nat))(g a:Nat)(nd:(l.map (·.1)).Nodup)(h:l.length<sizeLine):yR (G.GD l) (G.gv g) (G.av a)=some (G.GD (ptN l g a)):=
 (Wt (by rw[zr];exact h)).trans (ZaY (λz=>some (PV.dt z)) (qU G.gKi g a nd))
theorem Gs.X7{l:List (Nat×Nat)}{a g:Nat}(nd:(l.map (·.1)).Nodup)(h:l.length<sizeLine):yR (G.GA l) (G.av a) (G.gv g)=some (G.GA (ptN l a g)):=
 (Wt (by rw[zr];exact h)).trans (ZaY (λz=>some (PV.dt z)) (qU G.aKi a g nd))
end
def wiP(G:Gs)(n:Nat)(W:Nat->List Nat):PV:=.dt ((List.range n).map λ(i:Nat)=>(G.aK i,PV.lst (G.GL (W i))))
theorem mJ{G:Gs}{f:Nat->PV}{k:Nat}:∀ {l:List Nat},k∈l->cI (l.map λ(i:Nat)=>(G.aK i,f i)) (G.aK k)=some (f k)
 |i::l,h=>by
  rw[Zaq];unfold cI;by_cases e:i=k
  ·subst e;rw[Zam rfl]
  ·rw[Zal (λz=>e (G.aKi _ _ z))];exact mJ ((ZaC.mp h).resolve_left (Zbl e))
theorem Ti{G:Gs}{n k:Nat}{W:Nat->List Nat}(h:k<n):dY (wiP G n W) (G.av k)=some (some (.lst (G.GL (W k)))):=
 Tg.trans (ZaY some (mJ (f:=λi=>.lst (G.GL (W i))) (Zay.mpr h)))
structure Wk(n:Nat)(W:Nat->List Nat)(B:List (Nat×Nat))(S R:List Nat)(cb:List (Nat×Nat)):Prop where
 eq:R=S++cb.map λp=>(lk B p.1).getD 0
 pr:∀ p∈cb,lk B p.1≠none
 nd:(cb.map (·.1)).Nodup
 wish:∀ p∈cb,p.1∈W p.2
 back:∀ (k:Nat) p,cb[k]?=some p->∃ i,i<S.length+k/\R[i]?=some p.2
 lt:∀ a∈R,a<n
section
variable{n:Nat}{W:Nat->List Nat}{B:List (Nat×Nat)}{S R:List Nat}{cb:List (Nat×Nat)}
theorem Wk.len(h:Wk n W B S R cb):R.length=S.length+cb.length:=by rw[h.eq];simp
theorem Wk.nU{N:Nat}(h:Wk n W B S R cb)(wl:∀ i g,g∈W i->g<N):cb.length<=N:=by
 have:=bQ (l:=cb.map (·.1)) (k:=List.range N) h.nd λx hx=>by
  obtain⟨p,hp,rfl⟩:=Zai.mp hx;exact Zay.mpr (wl _ _ (h.wish p hp))
 simpa using this
theorem Wk.start(h:∀ a∈S,a<n):Wk n W B S S []:=⟨by simp,λp h=>by simp at h,by simp,λp h=>by simp at h,λk p e=>by simp at e,h⟩
theorem Wk.more(h:Wk n W B S R cb){a g b i:Nat}(ha:R[i]?=some a)(hg:g∈W a)(hn:lk cb g=none)(hb:lk B g=some b)(bl:b<n):Wk n W B S (R++[b]) (cb++[(g,a)]) where
 eq:=by rw[ZaW,Zaq,Zcu,hb,<-Zbc,<-h.eq];rfl
 pr:=λp hp=>by
  rcases ZaK.mp hp with hp|hp
  ·exact h.pr p hp
  ·simp at hp;subst hp;rw[hb];simp
 nd:=by
  rw[ZaW,Zbi];refine⟨h.nd,by simp,λx hx y hy=>?_⟩
  simp at hy;subst hy;exact λe=>lQ.mp hn (e▸hx)
 wish:=λp hp=>by
  rcases ZaK.mp hp with hp|hp
  ·exact h.wish p hp
  ·simp at hp;subst hp;exact hg
 back:=λk p e=>by
  have hl:=h.len;by_cases hk:k<cb.length
  ·rw[Zag hk] at e;obtain⟨j,h1,h2⟩:=h.back k p e;refine⟨j,h1,?_⟩;rw[Zag (by omega)];exact h2
  ·rw[Zap (by omega)] at e
   have:k=cb.length:=by
    rcases Zc3 (k-cb.length) 1 with q|q
    ·omega
    ·rw[ZaQ (by simpa using q)] at e;cases e
   subst this;simp at e;subst e;have hi:i<R.length:=(Zad.mp ha).1;exact⟨i,by omega,by rw[Zag hi];exact ha⟩
 lt:=λx hx=>by
  rcases ZaK.mp hx with hx|hx
  ·exact h.lt x hx
  ·simp at hx;subst hx;exact bl
end
def gvP(G:Gs):Option Nat->PV
 |none=>.non
 |some g=>G.gv g
def Vu(n:Nat)(W:Nat->List Nat)(B:List (Nat×Nat))(S:List Nat)(g:Option Nat)(R:List Nat)(cb:List (Nat×Nat)):Prop:=
 match g with
 |none=>Wk n W B S R cb/\∀ a∈R,∀ x∈W a,x∈cb.map (·.1)
 |some g=>∃ (cb':List (Nat×Nat)) (a i:Nat),cb=cb'++[(g,a)]/\Wk n W B S R cb'/\R[i]?=some a/\g∈W a/\lk cb' g=none/\lk B g=none
theorem X8{G:Gs}{l:List Nat}{i:Nat}{x:PV}(h:(G.AL l)[i]?=some x):∃ g,l[i]?=some g/\x=G.av g:=by
 unfold Gs.AL at h;rw[Zac] at h;cases e:l[i]? with
 |none=>rw[e] at h;cases h
 |some g=>rw[e] at h;cases h;exact⟨g,rfl,rfl⟩
theorem Lr{G:Gs}{l:List Nat}{i:Nat}{x:PV}(h:(G.GL l)[i]?=some x):∃ g,l[i]?=some g/\x=G.gv g:=by
 unfold Gs.GL at h;rw[Zac] at h;cases e:l[i]? with
 |none=>rw[e] at h;cases h
 |some g=>rw[e] at h;cases h;exact⟨g,rfl,rfl⟩
theorem Yb{G:Gs}(l:List Nat)(b:Nat):G.AL l++[G.av b]=G.AL (l++[b]):=by simp[Gs.AL]
theorem Yc{G:Gs}{l:List Nat}{i a:Nat}(h:l[i]?=some a):atI (G.AL l) (i:Int)=some (G.av a):=by
 exact mU (by unfold Gs.AL;rw[Zac,h];rfl)
inductive WlI(G:Gs)(n:Nat)(W:Nat->List Nat)(B:List (Nat×Nat))(S:List Nat)(k:Nat):Rho->Prop
 |mk (R:List Nat) (cb:List (Nat×Nat)) (pl:Nat) (v6 v7:Option Sl) (hk:k+pl=1999) (hpl:pl<=R.length) (hw:Wk n W B S R cb) (hc:∀ i a,i<pl->R[i]?=some a->∀ x∈W a,x∈cb.map (·.1)):WlI G n W B S k [some (.sh (wiP G n W)),some (.sh (G.GD B)),some (.sh (.lst (G.AL S))),some (.ow (.lst (G.AL R))),some (.ow (G.GD cb)),some (.sh (.int (pl:Int))),v6,v7]
inductive WlJ(G:Gs)(n:Nat)(W:Nat->List Nat)(B:List (Nat×Nat))(S:List Nat)(pl a j:Nat):Rho->Prop
 |mk (R:List Nat) (cb:List (Nat×Nat)) (v7:Option Sl) (ha:R[pl]?=some a) (hw:Wk n W B S R cb) (hc:∀ i a,i<pl->R[i]?=some a->∀ x∈W a,x∈cb.map (·.1)) (hj:∀ i x,i<j->(W a)[i]?=some x->x∈cb.map (·.1)):WlJ G n W B S pl a j [some (.sh (wiP G n W)),some (.sh (G.GD B)),some (.sh (.lst (G.AL S))),some (.ow (.lst (G.AL R))),some (.ow (G.GD cb)),some (.sh (.int (pl:Int))),some (.sh (G.av a)),v7]
theorem oV{G:Gs}{n N:Nat}{W:Nat->List Nat}{B:List (Nat×Nat)}{S:List Nat}(hN:N<=600)(hS:S.length<=600)(sl:∀ a∈S,a<n)(wl:∀ i g,g∈W i->g<N)(bl:∀ g b,lk B g=some b->b<n) :
  ∃ g R cb,mz [wiP G n W,G.GD B,.lst (G.AL S)]=some (.ok (.tup [gvP G g,.lst (G.AL R),G.GD cb]))/\Vu n W B S g R cb:=by
 have big:∀ {k:Nat},k<=9000->k<sizeLine:=λh=>CV (by lia)
 suffices h:∃ p,mz [wiP G n W,G.GD B,.lst (G.AL S)]=some (.ok p)/\∃ g R cb,p=.tup [gvP G g,.lst (G.AL R),G.GD cb]/\Vu n W B S g R cb by
  obtain⟨p,e,g,R,cb,rfl,h⟩:=h;exact⟨g,R,cb,e,h⟩
 refine zp (Ny λQS hQ=>?_);unfold BL;rw[show startR [wiP G n W,G.GD B,.lst (G.AL S)] 5=[some (.sh (wiP G n W)),some (.sh (G.GD B)),some (.sh (.lst (G.AL S))),none,none,none,none,none] from rfl];walk_at "rd"
 refine my (n:=1999) (I:=WlI G n W B S) (.mk S [] 0 none none rfl (Za4 _) (Wk.start sl) λi a h=>absurd h (Zby _)) ?_;rintro k _ ⟨R,cb,pl,v6,v7,hk,hpl,hw,hc⟩;have hR:=hw.len;have hcb:=hw.nU wl;walk_at "rd"
 by_cases hlt:(pl:Int)<((G.AL R).length:Int)
 case neg=>
  rw[Zal hlt];have hpl2:pl=R.length:=by simp only[Gs.AL,Zab] at hlt;lia
  unfold BK;walk_at "rd"
  refine⟨rfl,G.shA R,G.sh cb,ZaA (big (by lia)),hQ _ ⟨_,rfl,none,R,cb,rfl,hw,λa ha x hx=>?_⟩⟩
  obtain⟨i,hi⟩:=ZaZ ha;exact hc i a (by rw[hpl2];exact(Zad.mp hi).1) hi x hx
 case pos=>
  rw[Zam hlt];have hp2:pl<R.length:=by simp only[Gs.AL,Zab] at hlt;lia
  obtain⟨a,ha⟩:∃ a,R[pl]?=some a:=⟨_,Zae hp2⟩;have al:a<n:=hw.lt a (Zak ha);refine⟨by lia,Ws λQS2 hN hC _ _ hR2=>?_⟩
  unfold BJ;walk_at "rd"
  refine⟨(G.av a),Yc ha,rfl,_,Ti al,?_⟩;rw[tv_asSeqL];refine dJ (I:=WlJ G n W B S pl a) (.mk R cb v7 ha hw hc λi x h=>absurd h (Zby _)) ?_ ?_
  case refine_2=>
   rintro _ ⟨R,cb,v7,ha,hw,hc,hj⟩;have hR:=hw.len;have hcb:=hw.nU wl;have hp3:pl<R.length:=(Zad.mp ha).1;walk_at "rd"
   unfold By;walk_at "rd"
   refine hN _ (.mk R cb (pl+1) (some (.sh (G.av a))) v7 (by lia) hp3 hw λi b hi hb x hx=>?_)
   by_cases e:i=pl
   ·subst e;rw[ha] at hb;cases hb;obtain⟨i,hi⟩:=ZaZ hx;exact hj i x (by simpa[Gs.GL] using(Zad.mp hi).1) hi
   ·exact hc i b (by lia) hb x hx
  rintro j y _ ey ⟨R,cb,v7,ha,hw,hc,hj⟩;refine Ws λQS3 hN3 hC3 _ _ hR3=>?_;obtain⟨g,eg,rfl⟩:=Lr ey;have hR:=hw.len;have hcb:=hw.nU wl;have hg:g∈W a:=Zak eg;unfold Bx;walk_at "rd"
  refine⟨G.isD _,_,G.find _ _,?_⟩;cases hk2:lk cb g with
  |some z=>
   rw[Zbu,ZbO,Zam rfl];refine hC3 _ (.mk R cb _ ha hw hc λi x hi hx=>?_);by_cases e:i=j
   ·subst e;rw[eg] at hx;cases hx;exact Zai.mpr ⟨_,BP hk2,rfl⟩
   ·exact hj i x (by lia) hx
  |none=>
   rw[Zcr,Zb2,Zal (by decide)]
   unfold Bw;walk_at "rd"
   refine⟨_,G.put _ _ _ hw.nd (big (by lia)),G.isD _,_,G.find _ _,?_⟩
   rw[Lq _ _ _ hk2];cases hb:lk B g with
   |none=>
    rw[Zcr,Zb2,Zam (by decide)]
    unfold Bu;walk_at "rd"
    exact⟨G.still g,G.shA R,G.sh _,ZaA (big (by lia)),hR3 _ (hR2 _ (hQ _ ⟨_,rfl,some g,R,_,rfl,cb,a,pl,rfl,hw,ha,hg,hk2,hb⟩))⟩
   |some b=>
    rw[Zbu,ZbO,Zal (by decide)]
    unfold Bv;walk_at "rd"
    have hp3:pl<R.length:=(Zad.mp ha).1;have sub:∀ x,x∈cb.map (·.1)->x∈(cb++[(g,a)]).map (·.1):=λx hx=>by rw[ZaW];exact Zbm _ hx
    have M:WlJ G n W B S pl a (j+1) _:=.mk (R++[b]) (cb++[(g,a)]) (some (.sh (G.gv g))) (by rw[Zag hp3];exact ha) (hw.more ha hg hk2 hb (bl g b hb)) (λi c hi hc' x hx=>by
     rw[Zag (by lia)] at hc'
     exact sub x (hc i c hi hc' x hx)) λi x hi hx=>by
      by_cases e:i=j
      ·subst e;rw[eg] at hx;cases hx;simp
      ·exact sub x (hj i x (by lia) hx)
    rw[<-Yb] at M;exact⟨G.isD _,(G.av b),by rw[G.find,hb];rfl,by simp only[Gs.AL,Zab];exact big (by lia),hN3 _ M⟩
structure Pm(n:Nat)(W:Nat->List Nat)(A B:List (Nat×Nat)):Prop where
 ndA:(A.map (·.1)).Nodup
 ndB:(B.map (·.1)).Nodup
 iff:∀ a g,lk A a=some g↔lk B g=some a
 ok:∀ {a g},lk A a=some g->g∈W a/\a<n
structure Bk(n:Nat)(W:Nat->List Nat)(B:List (Nat×Nat))(s:Nat)(cb:List (Nat×Nat)):Prop where
 nd:(cb.map (·.1)).Nodup
 wish:∀ p∈cb,p.1∈W p.2
 back:∀ (k:Nat) p,cb[k]?=some p->p.2=s\/∃ (j:Nat) (q:Nat×Nat),j<k/\cb[j]?=some q/\lk B q.1=some p.2
 lt:∀ p∈cb,p.2<n
theorem Wk.bk{n:Nat}{W:Nat->List Nat}{B:List (Nat×Nat)}{s:Nat}{R:List Nat}{cb:List (Nat×Nat)}(h:Wk n W B [s] R cb){g a i:Nat}(ha:R[i]?=some a)(hg:g∈W a)(hn:lk cb g=none):Bk n W B s (cb++[(g,a)]) where
 nd:=by
  rw[ZaW,Zbi];refine⟨h.nd,by simp,λx hx y hy=>?_⟩
  simp at hy;subst hy;exact λe=>lQ.mp hn (e▸hx)
 wish:=λp hp=>by
  rcases ZaK.mp hp with hp|hp
  ·exact h.wish p hp
  ·simp at hp;subst hp;exact hg
 back:=λk p e=>by
  have hl:=h.len;obtain⟨j,hj,ej⟩:∃ j,j<1+k/\R[j]?=some p.2:=by
   by_cases hk:k<cb.length
   ·rw[Zag hk] at e;exact h.back k p e
   ·rw[Zap (by lia)] at e
    have:k=cb.length:=by
     rcases Zc3 (k-cb.length) 1 with q|q
     ·lia
     ·rw[ZaQ (by simpa using q)] at e;cases e
    subst this;simp at e;subst e;have hi:i<R.length:=(Zad.mp ha).1;exact⟨i,by simp at hl;lia,ha⟩
  have hjR:j<R.length:=(Zad.mp ej).1;rw[h.eq] at ej;cases j with
  |zero=>left;simpa using ej.symm
  |succ j=>
   right
   rw[Zap (by simp)] at ej
   simp only[ZaP,Zcp,Nat.zero_add,Nat.add_sub_cancel,Zac] at ej;cases q:cb[j]? with
   |none=>rw[q] at ej;cases ej
   |some p'=>
    rw[q] at ej;have ej:some ((lk B p'.1).getD 0)=some p.2:=ej;have hp':=h.pr p' (Zak q);have jl:j<cb.length:=(Zad.mp q).1;refine⟨j,p',by lia,by rw[Zag jl];exact q,?_⟩
    cases z:lk B p'.1 with
    |none=>exact absurd z hp'
    |some b=>rw[z] at ej;exact ZaY some (Zaf ej)
 lt:=λp hp=>by
  rcases ZaK.mp hp with hp|hp
  ·obtain⟨k,hk⟩:=ZaZ hp;obtain⟨j,_,ej⟩:=h.back k p hk;exact h.lt _ (Zak ej)
  ·simp at hp;subst hp;exact h.lt _ (Zak ha)
structure Jp(n N:Nat)(W:Nat->List Nat)(A0 B0:List (Nat×Nat))(s:Nat)(cb:List (Nat×Nat))(Dd:Nat->Prop)(k x:Nat)(A B:List (Nat×Nat)):Prop where
 ndA:(A.map (·.1)).Nodup
 ndB:(B.map (·.1)).Nodup
 kA:∀ a∈A.map (·.1),a<n
 kB:∀ a∈B.map (·.1),a<N
 old:∀ (i:Nat) p b,i<k->cb[i]?=some p->lk A0 b=some p.1->lk A b=some p.1
 st:lk A s=none
 iff:∀ a g,g≠x->(lk A a=some g↔lk B g=some a)
 no:∀ a,lk A a≠some x
 ok:∀ {a g},lk A a=some g->g∈W a/\a<n
 xd:∀ d,Dd d->lk B0 x≠some d
 bd:∀ g d,Dd d->lk B0 g=some d->lk B g=some d
 more:∀ b,lk A0 b≠none->lk A b≠none
 less:∀ b,lk A b≠none->lk A0 b≠none
def dB(W:Nat->List Nat)(B:List (Nat×Nat))(Dd:Nat->Prop):Prop:=∀ d,Dd d->∀ g∈W d,∃ d',lk B g=some d'/\Dd d'
section
variable{n N:Nat}{W:Nat->List Nat}{A0 B0 A B:List (Nat×Nat)}{s k x a:Nat}{cb:List (Nat×Nat)}{Dd:Nat->Prop}
theorem yL{l:List (Nat×Nat)}(h:(l.map (·.1)).Nodup)(k v:Nat):((ptN l k v).map (·.1)).Nodup:=by
 rw[zq];split
 ·rename_i e;rw[Zbi];refine⟨h,by simp,λx hx y hy=>?_⟩
  simp at hy;subst hy;exact λz=>lQ.mp e (z▸hx)
 ·exact h
theorem N8{l:List (Nat×Nat)}{k v n:Nat}(h:∀ a∈l.map (·.1),a<n)(hk:k<n):∀ a∈(ptN l k v).map (·.1),a<n:=by
 rw[zq];split
 ·intro a ha;rcases ZaK.mp ha with ha|ha
  ·exact h a ha
  ·simp at ha;subst ha;exact hk
 ·exact h
theorem jy{l:List (Nat×Nat)}{n:Nat}(nd:(l.map (·.1)).Nodup)(h:∀ a∈l.map (·.1),a<n):l.length<=n:=by
 have:=bQ (l:=l.map (·.1)) (k:=List.range n) nd λx hx=>Zay.mpr (h x hx);simpa using this
theorem Jp.last(P:Pm n W A0 B0)(b:Bk n W B0 s cb)(c:dB W B0 Dd)(j:Jp n N W A0 B0 s cb Dd k x A B)(e:cb[k]?=some (x,a))(hl:lk A a=none):Pm n W (ptN A a x) (ptN B x a)/\lk (ptN A a x) s≠none/\(∀ b,lk A0 b≠none->lk (ptN A a x) b≠none)/\(∀ b,lk (ptN A a x) b≠none->b=s\/lk A0 b≠none)/\dB W (ptN B x a) Dd:=by
 have xa:x∈W a:=b.wish _ (Zak e);have as:a=s:=by
  rcases b.back k _ e with h|⟨i,q,hi,eq,hq⟩
  ·exact h
  ·exact absurd hl (j.more a (by rw[(P.iff _ _).mpr hq];simp))
 refine⟨⟨yL j.ndA _ _,yL j.ndB _ _,λb' g=>?_,λ{b' g} h=>?_⟩,by rw[fW,Zam as.symm];simp,λb' hb=>?_,λb' hb=>?_,λd hd g hg=>?_⟩
 ·rw[fW,fW];by_cases hb:b'=a
  ·subst hb;rw[Zam rfl];by_cases hx:g=x
   ·subst hx;simp
   ·rw[Zal hx];refine⟨λz=>absurd (Zaf z).symm hx,λz=>?_⟩;rw[(j.iff _ _ hx).mpr z] at hl;cases hl
  ·rw[Zal hb];by_cases hx:g=x
   ·subst hx;rw[Zam rfl];exact⟨λz=>absurd z (j.no b'),λz=>absurd (Zaf z).symm hb⟩
   ·rw[Zal hx];exact j.iff _ _ hx
 ·rw[fW] at h;split at h
  ·rename_i hb;cases h;subst hb;exact⟨xa,b.lt _ (Zak e)⟩
  ·exact j.ok h
 ·rw[fW];split
  ·simp
  ·exact j.more b' hb
 ·rw[fW] at hb;split at hb
  ·rename_i e';exact .inl (e'.trans as)
  ·exact .inr (j.less b' hb)
 ·obtain⟨d',h1,h2⟩:=c d hd g hg;refine⟨d',?_,h2⟩;rw[fW,Zal λz=>by subst z;exact j.xd d' h2 h1]
  exact j.bd g d' h2 h1
theorem Jp.step(P:Pm n W A0 B0)(wl:∀ i g,g∈W i->g<N)(b:Bk n W B0 s cb)(c:dB W B0 Dd)(j:Jp n N W A0 B0 s cb Dd k x A B)(e:cb[k]?=some (x,a)){y:Nat}(hl:lk A a=some y):∃ k2 a2,k2<k/\cb[k2]?=some (y,a2)/\Jp n N W A0 B0 s cb Dd k2 y (ptN A a x) (ptN B x a):=by
 have xa:x∈W a:=b.wish _ (Zak e);have an:a<n:=b.lt _ (Zak e);have sa:s≠a:=λz=>by subst z;rw[j.st] at hl;cases hl
 obtain⟨i,q,hi,eq,hq⟩:=(b.back k _ e).resolve_left (Zbl sa);have hA0:=(P.iff _ _).mpr hq;have yq:y=q.1:=by have:=j.old i q a hi eq hA0;rw[hl] at this;exact Zaf this
 subst yq;have nx:∀ (i':Nat) p,i'<k->cb[i']?=some p->p.1≠x:=λi' p h1 h2 z=>by
  have e1:(cb.map (·.1))[i']?=some x:=by rw[Zac,h2];exact ZaY some z
  have e2:(cb.map (·.1))[k]?=some x:=by rw[Zac,e];rfl
  have l1:i'<(cb.map (·.1)).length:=(Zad.mp e1).1;have:=(Zb8 l1 b.nd).mp (e1.trans e2.symm);lia
 have da:¬Dd a:=λhd=>by
  obtain⟨d',h1,h2⟩:=c a hd x xa;exact j.xd d' h2 h1
 have ny:=nx i q hi eq;refine⟨i,q.2,hi,eq,yL j.ndA _ _,yL j.ndB _ _,N8 j.kA an,N8 j.kB (wl _ _ xa),λi' p b' h1 h2 h3=>?_,by rw[fW,Zal sa];exact j.st,λb' g hg=>?_,λb'=>?_,λ{b' g} h=>?_,λd hd z=>?_,λg d hd z=>?_,λb' hb'=>?_,λb' hb'=>?_⟩
 ·rw[fW,Zal λz=>?_]
  ·exact j.old i' p b' (by lia) h2 h3
  ·subst z;rw[hA0] at h3;have z:q.1=p.1:=Zaf h3;have e1:(cb.map (·.1))[i']?=some q.1:=by rw[Zac,h2];exact ZaY some z.symm
   have e2:(cb.map (·.1))[i]?=some q.1:=by rw[Zac,eq];rfl
   have l1:i'<(cb.map (·.1)).length:=(Zad.mp e1).1;have:=(Zb8 l1 b.nd).mp (e1.trans e2.symm);lia
 ·rw[fW,fW];by_cases hb:b'=a
  ·subst hb;rw[Zam rfl];by_cases hx:g=x
   ·subst hx;simp
   ·rw[Zal hx];refine⟨λz=>absurd (Zaf z).symm hx,λz=>?_⟩;rw[(j.iff _ _ hx).mpr z] at hl;exact absurd (Zaf hl) hg
  ·rw[Zal hb];by_cases hx:g=x
   ·subst hx;rw[Zam rfl];exact⟨λz=>absurd z (j.no b'),λz=>absurd (Zaf z).symm hb⟩
   ·rw[Zal hx];exact j.iff _ _ hx
 ·rw[fW];split
  ·exact λz=>ny (Zaf z).symm
  ·rename_i hb;exact λz=>hb (by have h1:=(j.iff _ _ ny).mp z;have h2:=(j.iff _ _ ny).mp hl;rw[h1] at h2;exact Zaf h2)
 ·rw[fW] at h;split at h
  ·rename_i hb;cases h;subst hb;exact⟨xa,an⟩
  ·exact j.ok h
 ·rw[hq] at z;cases z;exact da hd
 ·rw[fW,Zal λw=>by subst w;exact j.xd d hd z]
  exact j.bd g d hd z
 ·rw[fW];split
  ·simp
  ·exact j.more b' hb'
 ·rw[fW] at hb';split at hb'
  ·rename_i e';subst e';exact j.less _ (by rw[hl];simp)
  ·exact j.less b' hb'
end
theorem xW{G:Gs}{A B cb:List (Nat×Nat)}:gr [G.GA A,G.GD B,G.GD cb,.non]=some (.ok (.tup [G.GA A,G.GD B])):=by
 suffices h:∃ p,gr [G.GA A,G.GD B,G.GD cb,.non]=some (.ok p)/\p=.tup [G.GA A,G.GD B] by
  obtain⟨p,e,rfl⟩:=h;exact e
 show ∃ p,uy (jY (dI [G.GA A,G.GD B,G.GD cb,.non] 3))=some (.ok p)/\p=.tup [G.GA A,G.GD B]
 refine rR ?_;unfold jY;rw[show dI [G.GA A,G.GD B,G.GD cb,.non] 3=[some (.ow (G.GA A)),some (.ow (G.GD B)),some (.sh (G.GD cb)),some (.sh .non),none,none,none] from rfl];walk_at "rd"
 refine my (n:=1999) (I:=λ_ Z=>Z=[some (.ow (G.GA A)),some (.ow (G.GD B)),some (.sh (G.GD cb)),some (.sh .non),some (.sh .non),none,none]) rfl ?_;rintro k Z rfl;walk_at "rd"
 try rw[Zal (show ¬PV.non.qz=false by decide)]
 exact⟨_,rfl,rfl⟩
def PrY(n N:Nat)(W:Nat->List Nat)(A0 B0:List (Nat×Nat))(s:Nat)(cbx:List (Nat×Nat))(Dd:Nat->Prop)(m:Nat)(A B:List (Nat×Nat)):Option Nat->Prop
 |none=>Pm n W A B/\lk A s≠none/\(∀ b,lk A0 b≠none->lk A b≠none)/\(∀ b,lk A b≠none->b=s\/lk A0 b≠none)/\dB W B Dd
 |some x=>∃ k a,cbx[k]?=some (x,a)/\k<m/\Jp n N W A0 B0 s cbx Dd k x A B
inductive PrI(G:Gs)(n N:Nat)(W:Nat->List Nat)(A0 B0:List (Nat×Nat))(s:Nat)(cbx:List (Nat×Nat))(Dd:Nat->Prop)(g m:Nat):Rho->Prop
 |mk (A B:List (Nat×Nat)) (y:Option Nat) (v5 v6:Option Sl) (hy:PrY n N W A0 B0 s cbx Dd m A B y):PrI G n N W A0 B0 s cbx Dd g m [some (.ow (G.GA A)),some (.ow (G.GD B)),some (.sh (G.GD cbx)),some (.sh (G.gv g)),some (.sh (gvP G y)),v5,v6]
theorem Gq{G:Gs}{n N:Nat}{W:Nat->List Nat}{A0 B0 cb:List (Nat×Nat)}{s g a:Nat}{Dd:Nat->Prop}(hn:n<=600)(hN:N<=600)(wl:∀ i g,g∈W i->g<N)(P:Pm n W A0 B0)(b:Bk n W B0 s (cb++[(g,a)]))(c:dB W B0 Dd)(hs:lk A0 s=none)(hg:lk B0 g=none) :
  ∃ A B,gr [G.GA A0,G.GD B0,G.GD (cb++[(g,a)]),G.gv g]=some (.ok (.tup [G.GA A,G.GD B]))/\Pm n W A B/\lk A s≠none/\(∀ b,lk A0 b≠none->lk A b≠none)/\(∀ b,lk A b≠none->b=s\/lk A0 b≠none)/\dB W B Dd:=by
 have big:∀ {k:Nat},k<=9000->k<sizeLine:=λh=>CV (by lia)
 suffices h:∃ p,gr [G.GA A0,G.GD B0,G.GD (cb++[(g,a)]),G.gv g]=some (.ok p)/\∃ A B,p=.tup [G.GA A,G.GD B]/\Pm n W A B/\lk A s≠none/\(∀ b,lk A0 b≠none->lk A b≠none)/\(∀ b,lk A b≠none->b=s\/lk A0 b≠none)/\dB W B Dd by
  obtain⟨p,e,A,B,rfl,h⟩:=h;exact⟨A,B,e,h⟩
 generalize hcb:cb++[(g,a)]=cbx at b ⊢
 have e0:cbx[cb.length]?=some (g,a):=by rw[<-hcb];simp
 have hlen:cbx.length<=N:=jy b.nd λx hx=>by
  obtain⟨p,hp,rfl⟩:=Zai.mp hx;exact wl _ _ (b.wish p hp)
 have kl:∀ {l:List (Nat×Nat)}{k:Nat},k∈l.map (·.1)->∃ v,lk l k=some v:=λ{l k} h=>by
  cases e:lk l k with
  |none=>exact absurd h (lQ.mp e)
  |some v=>exact⟨v,rfl⟩
 have j0:Jp n N W A0 B0 s cbx Dd cb.length g A0 B0:=by
  refine⟨P.ndA,P.ndB,λx hx=>?_,λx hx=>?_,λi p b' h1 h2 h3=>h3,hs,λa' g' _=>P.iff a' g',λa' z=>?_,P.ok,λd _ z=>?_,λg' d _ z=>z,λb' z=>z,λb' z=>z⟩
  ·obtain⟨v,hv⟩:=kl hx;exact(P.ok hv).2
  ·obtain⟨v,hv⟩:=kl hx;exact wl _ _ (P.ok ((P.iff _ _).mpr hv)).1
  ·rw[(P.iff _ _).mp z] at hg;cases hg
  ·rw[hg] at z;cases z
 refine rR (Ny λQS hQ=>?_);unfold jY;rw[show dI [G.GA A0,G.GD B0,G.GD cbx,G.gv g] 3=[some (.ow (G.GA A0)),some (.ow (G.GD B0)),some (.sh (G.GD cbx)),some (.sh (G.gv g)),none,none,none] from rfl];walk_at "rd"
 refine my (n:=1999) (I:=PrI G n N W A0 B0 s cbx Dd g) (.mk A0 B0 (some g) none none ⟨cb.length,a,e0,by have:=(Zad.mp e0).1;lia,j0⟩) ?_
 rintro m _ ⟨A,B,y,v5,v6,hy⟩;cases y with
 |none=>
  rw[show gvP G none=.non from rfl];walk_at "rd"
  try rw[Zal (show ¬PV.non.qz=false by decide)]
  exact hQ _ ⟨_,rfl,A,B,rfl,hy⟩
 |some x=>
  obtain⟨k,a',ek,km,j⟩:=hy;rw[show gvP G (some x)=G.gv x from rfl];walk_at "rd"
  rw[Zam (G.nn x)];refine⟨by lia,Js λQS2 hQ2=>?_⟩
  unfold tE;have lc:lk cbx x=some a':=yK b.nd (Zak ek);have lA:=jy j.ndA j.kA;have lB:=jy j.ndB j.kB;walk_at "rd"
  have M:PrI G n N W A0 B0 s cbx Dd g (m-1) _:=.mk (ptN A a' x) (ptN B x a') (lk A a') (some (.sh ((G.av a')))) (some (.sh ((Option.map G.gv (lk A a')).getD PV.non))) (by
   cases hl:lk A a' with
   |none=>exact j.last P b c ek hl
   |some y=>
    obtain⟨k2,a2,h1,h2,h3⟩:=j.step P wl b c ek hl;exact⟨k2,a2,h2,by lia,h3⟩)
  rw[show gvP G (lk A a')=(Option.map G.gv (lk A a')).getD PV.non by cases lk A a'<;>rfl] at M
  exact⟨G.isD _,(G.av a'),by rw[G.find,lc];rfl,rfl,_,G.N7 _ _,_,G.X7 j.ndA (big (by lia)),_,G.put _ _ _ j.ndB (big (by lia)),hQ2 _ M⟩
theorem JC(p:Sk):tD (skK p)=skP p:=by
 unfold tD skK skP;rw[Zaq,ZaS];rfl
theorem sr(G:Gs)(n:Nat)(W:Nat->List Nat):uC ((List.range n).map λ(i:Nat)=>(G.aK i,PV.lst (G.GL (W i))))=G.AL (List.range n):=by
 unfold uC Gs.AL;rw[ZaS];exact Za3 λi _=>JC _
theorem BV{l:List (List Key×PV)}{Q:List PV->Prop}:Tv (ww (.dt l)) Q=Q (uC l):=tv_some
theorem Er{l:List (List Key×PV)}{Q:List PV->Prop}:Tv (wy (.dt l)) Q=Q (pH l):=tv_some
inductive MpI(G:Gs)(n:Nat)(W:Nat->List Nat)(j:Nat):Rho->Prop
 |mk (A B:List (Nat×Nat)) (v3 v4:Option Sl) (P:Pm n W A B) (un:∀ a,j<=a->lk A a=none) (Dd:Nat->Prop) (c:dB W B Dd) (hd:∀ a,a<j->lk A a=none->Dd a):MpI G n W j [some (.sh (wiP G n W)),some (.ow (G.GA A)),some (.ow (G.GD B)),v3,v4]
theorem Gr{G:Gs}{n N:Nat}{W:Nat->List Nat}(hn:n<=600)(hN:N<=600)(wl:∀ i g,g∈W i->g<N) :
  ∃ A B,jq [wiP G n W]=some (.ok (G.GA A))/\Pm n W A B/\∃ Dd,dB W B Dd/\∀ a,a<n->lk A a=none->Dd a:=by
 have big:∀ {k:Nat},k<=9000->k<sizeLine:=λh=>CV (by omega)
 suffices h:∃ p,jq [wiP G n W]=some (.ok p)/\∃ A B,p=G.GA A/\Pm n W A B/\∃ Dd,dB W B Dd/\∀ a,a<n->lk A a=none->Dd a by
  obtain⟨p,e,A,B,rfl,h⟩:=h;exact⟨A,B,e,h⟩
 refine wz (Ny λQS hQ=>?_);unfold pK;rw[show startR [wiP G n W] 4=[some (.sh (wiP G n W)),none,none,none,none] from rfl];walk_at "rd"
 refine⟨rfl,?_⟩;rw[show wiP G n W=.dt ((List.range n).map λ(i:Nat)=>(G.aK i,PV.lst (G.GL (W i)))) from rfl,BV,sr,<-show wiP G n W=.dt ((List.range n).map λ(i:Nat)=>(G.aK i,PV.lst (G.GL (W i)))) from rfl];refine dJ (I:=MpI G n W) (.mk [] [] none none ⟨by simp,by simp,λa g=>by simp[lk],λ{a g} h=>by simp[lk] at h⟩ (λa _=>rfl) (λ_=>False) (λd h=>h.elim) λa h=>absurd h (Zby _)) ?_ ?_
 case refine_2=>
  rintro _ ⟨A,B,v3,v4,P,un,Dd,c,hd⟩;walk_at "rd"
  unfold qN;walk_at "rd"
  exact hQ _ ⟨_,rfl,A,B,rfl,P,Dd,c,λa ha=>hd a (by simpa[Gs.AL] using ha)⟩
 rintro j y _ ey ⟨A,B,v3,v4,P,un,Dd,c,hd⟩;refine Js λQS2 hQ2=>?_;obtain⟨s,es,rfl⟩:=X8 ey;have hs:s=j/\s<n:=by
  have hj:j<n:=by simpa using(Zad.mp es).1
  rw[Zbh hj] at es;cases es;exact⟨rfl,hj⟩
 obtain⟨rfl,sn⟩:=hs;obtain⟨g,R,cb,ew,he⟩:=oV (G:=G) (B:=B) (S:=[s]) hN (by simp) (λa ha=>by simp at ha;omega) wl λg b h=>(P.ok ((P.iff _ _).mpr h)).2
 unfold qM;walk_at "rd"
 refine⟨ZaA (big (by omega)),?_⟩
 rw[show[(G.av s)]=G.AL [s] from rfl,ew];walk_at "rd"
 cases g with
 |none=>
  obtain⟨hw,hc⟩:=he;refine⟨_,_,xW,hQ2 _ (.mk A B _ _ P (λa ha=>un a (by omega)) (λd=>Dd d\/d∈R) (λd hd' g hg=>?_) λa ha hl=>?_)⟩
  ·rcases hd' with h|h
   ·obtain⟨d',h1,h2⟩:=c d h g hg;exact⟨d',h1,.inl h2⟩
   ·obtain⟨p,hp,rfl⟩:=Zai.mp (hc d h g hg);cases e:lk B p.1 with
    |none=>exact absurd e (hw.pr p hp)
    |some b=>
     refine⟨b,rfl,.inr ?_⟩;rw[hw.eq];exact ZaJ _ (Zai.mpr ⟨p,hp,by rw[e];rfl⟩)
  ·by_cases e:a=s
   ·right;subst e;rw[hw.eq];simp
   ·exact .inl (hd a (by omega) hl)
 |some g=>
  obtain⟨cb',a,i,rfl,hw,ha,hg,hk,hb⟩:=he;obtain⟨A',B',e1,P',h1,h2,h3,c'⟩:=Gq (G:=G) hn hN wl P (hw.bk ha hg hk) c (un s (Zan _)) hb;refine⟨_,_,e1,hQ2 _ (.mk A' B' _ _ P' (λb hb'=>?_) Dd c' λb hb' hl=>?_)⟩
  ·cases e:lk A' b with
   |none=>rfl
   |some z=>
    rcases h3 b (by rw[e];simp) with h|h
    ·omega
    ·exact absurd (un b (by omega)) h
  ·by_cases e:b=s
   ·subst e;exact absurd hl h1
   ·refine hd b (by omega) ?_
    cases z:lk A b with
    |none=>rfl
    |some z'=>exact absurd hl (h2 b (by rw[z];simp))
theorem fG{α:Type}{tg:PV->Rho->Option Rho}{tst:Fn Bool}{el:Fn PV}{ρb:Rho}(src:α->PV)(t:α->Bool)(f:α->PV):∀ (l:List α),
  (∀ x∈l,∃ Z1,tg (src x) ρb=some Z1/\tst Z1=some (.ok (t x))/\(t x=true->el Z1=some (.ok (f x))))->fM tg tst el ρb (l.map src)=some (.ok ((l.filter t).map f))
 |[],_=>rfl
 |x::xs,h=>by
  obtain⟨Z1,e1,e2,e3⟩:=h x Zax;have ih:=fG src t f xs λy hy=>h y (Zat _ hy);rw[Zaq,fM,e1];simp only[e2,bnd];cases ht:t x with
  |true=>simp only[ZbA,e3 ht,ih,bnd,Za8,ht,Zaq]
  |false=>simp only[ZbB,Zbb,ih,Za8,ht]
def sV(l B:List (Nat×Nat)):List (Nat×Nat):=l.foldl (λB p=>ptN B p.2 p.1) B
theorem Oa{g a:Nat}:∀ (l:List (Nat×Nat)) {B:List (Nat×Nat)},(l.map (·.2)).Nodup->(lk (sV l B) g=some a↔(a,g)∈l\/(lk B g=some a/\g ∉ l.map (·.2)))
 |[],B,_=>by simp[sV]
 |p::l,B,nd=>by
  rw[Zaq,Zbs] at nd;show lk (sV l (ptN B p.2 p.1)) g=some a↔_
  rw[Oa l nd.2,fW];by_cases h:g=p.2
  ·subst h;rw[Zam rfl];constructor
   ·rintro(h|⟨h,_⟩)
    ·exact .inl (Zat _ h)
    ·cases h;exact .inl Zax
   ·rintro(h|⟨_,h⟩)
    ·rcases ZaC.mp h with e|h
     ·right;rw[<-e];exact⟨rfl,by rw[show(a,p.2).2=p.2 from rfl];exact nd.1⟩
     ·exact absurd (Zai.mpr ⟨_,h,rfl⟩) nd.1
    ·simp at h
  ·rw[Zal h];constructor
   ·rintro(q|⟨q1,q2⟩)
    ·exact .inl (Zat _ q)
    ·exact .inr ⟨q1,by simp only[Zaq,ZaC,not_or];exact⟨h,q2⟩⟩
   ·rintro(q|⟨q1,q2⟩)
    ·rcases ZaC.mp q with e|q
     ·rw[<-e] at h;exact absurd rfl h
     ·exact .inl q
    ·simp only[Zaq,ZaC,not_or] at q2;exact .inr ⟨q1,q2.2⟩
theorem wZ{G:Gs}:∀ (l:List (Nat×Nat)) {B:List (Nat×Nat)},(B.map (·.1)).Nodup->B.length+l.length<=9000->eZ (G.GD B) (l.map λp=>(G.gv p.2,G.av p.1))=some (G.GD (sV l B))
 |[],_,_,_=>rfl
 |p::l,B,nd,h=>by
  have h1:=G.put B p.2 p.1 nd (CV (by simp at h;lia))
  rw[Zaq];unfold eZ;rw[h1];exact wZ l (yL nd _ _) (by have:=Gp p.2 p.1 B;simp at h;lia)
theorem qW{G:Gs}:∀ (l:List (Nat×Nat)),jo (l.map λp=>PV.tup [G.gv p.2,G.av p.1])=some (l.map λp=>(G.gv p.2,G.av p.1))
 |[]=>rfl
 |p::l=>by
  rw[Zaq];unfold jo;rw[qW l];rfl
theorem Pm.Zn{n:Nat}{W:Nat->List Nat}{A B:List (Nat×Nat)}(P:Pm n W A B):(A.map (·.2)).Nodup:=by
 have h:=P.ndA;rw[List.Nodup,Zbj] at h ⊢;refine h.imp_of_mem λ{p q} hp hq hne e=>hne ?_;have h1:=(P.iff _ _).mp (yK P.ndA (show(p.1,p.2)∈A from hp));have h2:=(P.iff _ _).mp (yK P.ndA (show(q.1,q.2)∈A from hq));rw[e,h2] at h1;exact(Zaf h1).symm
theorem Pm.rev{n:Nat}{W:Nat->List Nat}{A B:List (Nat×Nat)}(P:Pm n W A B)(g a:Nat):lk (sV A []) g=some a↔lk B g=some a:=by
 rw[Oa A P.Zn,<-P.iff];simp only[lk,reduceCtorEq,false_and,or_false];exact⟨λh=>yK P.ndA h,λh=>BP h⟩
def dF(n:Nat)(A:List (Nat×Nat)):List Nat:=(List.range n).filter λa=>(lk A a).isNone
theorem w5(G:Gs)(l:List (Nat×Nat)):pH (kvQ G.aK G.gv l)=l.map λp=>PV.tup [G.av p.1,G.gv p.2]:=by
 unfold pH kvQ;rw[ZaS];exact Za3 λp _=>by show PV.tup [tD (skK (G.aS p.1)),G.gv p.2]=_;rw[JC];rfl
def xX(ps:List Sk):List Sk:=(g8 ps).map λj=>ps.getD j default
theorem su(ps:List Sk):(xX ps).Perm ps:=by
 have h:=(oG ps).map λj=>ps.getD j default;refine h.trans (List.Perm.of_eq ?_);apply ZbG
 intro i;rw[Zac];by_cases hi:i<ps.length
 ·rw[Zbh hi,Zae hi];show some (ps.getD i default)=_
  rw[Zao,Zae hi];rfl
 ·rw[ZaQ (by simpa using hi),ZaQ (by simpa using hi)];rfl
theorem Es:∀ (ps:List Sk),Bg (ps.map skP)=some ps
 |[]=>rfl
 |p::ps=>by
  rw[Zaq];unfold Bg;rw[Es ps];have:X3 (skP p)=some p:=by
   show(gR (p.2.map PV.int)).map _=_
   rw[MM.mq];rfl
  rw[this]
theorem Et:∀ (ns:List Int),yG (ns.map .inl)=some ns
 |[]=>rfl
 |n::ns=>by
  show(yG (ns.map .inl)).map (n::·)=_
  rw[Et ns];rfl
theorem JD:∀ (ps:List Sk),CG (ps.map skK)=some ps
 |[]=>rfl
 |p::ps=>by
  rw[Zaq];unfold CG;rw[JD ps];have:kSk (skK p)=some p:=by
   show(yG (p.2.map .inl)).map _=_
   rw[Et];rfl
  rw[this]
theorem JF{ps:List Sk}(h:∀ p∈ps,p.2.length=3):m5 ps=true:=by
 cases ps with
 |nil=>rfl
 |cons p l=>
  refine ZaT.mpr λq hq=>?_;rw[h q (Zat _ hq),h p Zax];rfl
theorem Ob{ps:List Sk}(nd:ps.Nodup)(h:∀ p∈ps,p.2.length=3)(hl:ps.length<64):rO (ps.map skP)=some (.ok (.lst ((xX ps).map skP))):=by
 unfold rO;rw[Es];show(if _ then _ else _)=_
 rw[Zam ⟨nd,JF h,hl⟩];unfold xX;rw[ZaS];rfl
theorem Vv{l:List (List Key×PV)}{ps:List Sk}(e:l.map (·.1)=ps.map skK)(nd:ps.Nodup)(h:∀ p∈ps,p.2.length=3)(hl:ps.length<64):Bj (.dt l)=some (.ok (.lst ((xX ps).map skP))):=by
 show(match CG (l.map (·.1)) with
  |some ps=>if ps.Nodup/\m5 ps=true/\ps.length<64 then some (Res.ok (PV.lst ((g8 ps).map λj=>skP (ps.getD j default)))) else none
  |none=>none)=_
 rw[e,JD];show(if _ then _ else _)=_
 rw[Zam ⟨nd,JF h,hl⟩];unfold xX;rw[ZaS];rfl
theorem Wk.ndR{n:Nat}{W:Nat->List Nat}{A B B':List (Nat×Nat)}{R:List Nat}{cb:List (Nat×Nat)}(P:Pm n W A B)(hB:∀ g a,lk B' g=some a↔lk B g=some a)(hw:Wk n W B' (dF n A) R cb):R.Nodup:=by
 rw[hw.eq,Zbi];refine⟨ZbP Za5 ZbL,?_,λa ha b hb e=>?_⟩
 ·have h:=hw.nd;rw[List.Nodup,Zbj] at h ⊢;refine h.imp_of_mem λ{p q} hp hq hne e=>hne ?_;cases e1:lk B' p.1 with
  |none=>exact absurd e1 (hw.pr p hp)
  |some a=>
   cases e2:lk B' q.1 with
   |none=>exact absurd e2 (hw.pr q hq)
   |some b=>
    rw[e1,e2] at e;have e:a=b:=e;subst e;have h1:=(P.iff _ _).mpr ((hB _ _).mp e1);have h2:=(P.iff _ _).mpr ((hB _ _).mp e2);rw[h1] at h2;exact Zaf h2
 ·subst e;obtain⟨p,hp,e1⟩:=Zai.mp hb;cases e2:lk B' p.1 with
  |none=>exact absurd e2 (hw.pr p hp)
  |some z=>
   rw[e2] at e1;have e1:z=a:=e1;subst e1;have h1:=(P.iff _ _).mpr ((hB _ _).mp e2);have:=(Zav.mp ha).2;rw[h1] at this;cases this
theorem BW{G:Gs}{n N:Nat}{W:Nat->List Nat}{A B:List (Nat×Nat)}{Dd:Nat->Prop}(hn:n<64)(hN:N<64)(wl:∀ i g,g∈W i->g<N)(P:Pm n W A B)(c:dB W B Dd)(hd:∀ a,a<n->lk A a=none->Dd a) :
  ∃ B' R cb,fP [wiP G n W,G.GA A]=some (.ok (.tup [.lst ((xX (R.map G.aS)).map skP),.lst ((xX (cb.map λp=>G.gS p.1)).map skP)]))/\(∀ g a,lk B' g=some a↔lk B g=some a)/\Wk n W B' (dF n A) R cb/\∀ a∈R,∀ x∈W a,x∈cb.map (·.1):=by
 have big:∀ {k:Nat},k<=9000->k<sizeLine:=λh=>CV (by lia)
 have kl:∀ {l:List (Nat×Nat)}{k:Nat},k∈l.map (·.1)->∃ v,lk l k=some v:=λ{l k} h=>by
  cases e:lk l k with
  |none=>exact absurd h (lQ.mp e)
  |some v=>exact⟨v,rfl⟩
 have lA:A.length<=n:=jy P.ndA λx hx=>by obtain⟨v,hv⟩:=kl hx;exact(P.ok hv).2
 obtain⟨g,R,cb,ew,he⟩:=oV (G:=G) (B:=sV A []) (S:=dF n A) (by lia) (by have:(dF n A).length<=(List.range n).length:=ZaO _ _;rw[ZaB] at this;lia) (λa ha=>by simpa[dF] using(Zav.mp ha).1) wl λg b h=>(P.ok ((P.iff _ _).mpr ((P.rev g b).mp h))).2
 have stay:∀ {R cb},Wk n W (sV A []) (dF n A) R cb->(∀ a∈R,Dd a):=λ{R cb} hw=>by
  intro a ha;obtain⟨i,hi⟩:=ZaZ ha;induction i using Nat.strongRecOn generalizing a with
  |_ i ih=>
   rw[hw.eq] at hi;by_cases hl:i<(dF n A).length
   ·rw[Zag hl] at hi;have:=Zav.mp (Zak hi);exact hd a (by simpa using this.1) (by simpa using this.2)
   ·rw[Zap (by lia),Zac] at hi
    cases q:cb[i-(dF n A).length]? with
    |none=>rw[q] at hi;cases hi
    |some p=>
     rw[q] at hi;have hi:some ((lk (sV A []) p.1).getD 0)=some a:=hi;obtain⟨j,h1,h2⟩:=hw.back _ p q;have dj:=ih j (by lia) p.2 (Zak h2) h2
     obtain⟨d',e1,e2⟩:=c p.2 dj p.1 (hw.wish p (Zak q));rw[(P.rev _ _).mpr e1] at hi;cases hi;exact e2
 have hg:g=none:=by
  cases g with
  |none=>rfl
  |some g=>
   obtain⟨cb',a,i,rfl,hw,ha,hg,hk,hb⟩:=he;obtain⟨d',e1,_⟩:=c a (stay hw a (Zak ha)) g hg;rw[(P.rev _ _).mpr e1] at hb;cases hb
 subst hg;obtain⟨hw,hc⟩:=he;refine⟨sV A [],R,cb,?_,P.rev,hw,hc⟩;refine iG ?_;unfold jr;rw[show startR [wiP G n W,G.GA A] 2=[some (.sh (wiP G n W)),some (.sh (G.GA A)),none,none] from rfl];walk_at "rd"
 rw[show G.GA A=.dt (kvQ G.aK G.gv A) from rfl,Er,w5,fG (λp:Nat×Nat=>PV.tup [G.av p.1,G.gv p.2]) (λ_=>true) (λp=>PV.tup [G.gv p.2,G.av p.1]) A λp _=>⟨_,rfl,rfl,λ_=>fC (by walk_at "rd";exact ZaA (big (by lia)))⟩,tv_some,Zbw.mpr (λ_ _=>rfl)]
 have pa:eZ (.dt []) (A.map λp=>(G.gv p.2,G.av p.1))=some (G.GD (sV A [])):=by
  have h:=wZ (G:=G) A (B:=[]) (by simp) (by simp;lia)
  exact h
 refine⟨rfl,by rw[Zab];exact ZaA (big (by lia)),_,qW A,_,pa,rfl,?_⟩
 rw[show wiP G n W=.dt ((List.range n).map λ(i:Nat)=>(G.aK i,PV.lst (G.GL (W i)))) from rfl,BV,sr,<-show wiP G n W=.dt ((List.range n).map λ(i:Nat)=>(G.aK i,PV.lst (G.GL (W i)))) from rfl];refine⟨by simp only[Gs.AL,Zab,ZaB];exact ZaA (big (by lia)),?_⟩
 rw[show G.AL (List.range n)=(List.range n).map G.av from rfl,fG G.av (λa=>(lk A a).isNone) G.av (List.range n) λa _=>⟨_,rfl,fC (by
  walk_at "rd"
  refine⟨_,G.N7 A a,?_⟩;cases lk A a<;>rfl),λ_=>fC (by walk_at "rd")⟩,tv_some,show((List.range n).filter λa=>(lk A a).isNone).map G.av=G.AL (dF n A) from rfl,ew]
 walk_at "rd"
 have hR:=hw.len;have hcb:=hw.nU wl;have hf:(dF n A).length<=(List.range n).length:=ZaO _ _;rw[ZaB] at hf;have nR:R.length<=n:=by
  have:=bQ (l:=R) (k:=List.range n) (Wk.ndR P P.rev hw) λx hx=>Zay.mpr (hw.lt x hx);simpa using this
 have ndR:=Wk.ndR P P.rev hw;have nm:∀ {l:List Nat}{f:Nat->Sk},l.Nodup->(∀ a b,f a=f b->a=b)->(l.map f).Nodup:=λ{l f} nd inj=>by
  rw[List.Nodup,Zbj];exact nd.imp λhne e=>hne (inj _ _ e)
 rw[show G.AL R=(R.map G.aS).map skP by rw[ZaS];rfl,Ob (nm ndR G.ia) (λp hp=>by obtain⟨a,_,rfl⟩:=Zai.mp hp;exact G.la a) (by rw[Zab];lia),tv_some]
 refine⟨rfl,?_⟩;rw[show G.GD cb=.dt (kvQ G.gK G.av cb) from rfl,Vv (ps:=cb.map λp=>G.gS p.1) (by unfold kvQ;rw[ZaS,ZaS];rfl) (by have:=nm (f:=G.gS) hw.nd G.ig;rw[ZaS] at this;exact this) (λp hp=>by obtain⟨a,_,rfl⟩:=Zai.mp hp;exact G.lg _) (by rw[Zab];lia),tv_some]
 exact⟨ZaA (big (by lia)),rfl⟩
def uJ(l:List Int):List (Int×Int):=l.zip l.tail
theorem Gu:∀ {l:List Int},l.Pairwise (·<·)->∀ p∈uJ l,p.1<p.2/\p.1∈l/\p.2∈l/\∀ y∈l,y<=p.1\/p.2<=y
 |[],_,p,hp=>by simp[uJ] at hp
 |[a],_,p,hp=>by simp[uJ] at hp
 |a::b::l,pw,p,hp=>by
  have h1:=ZbC.mp pw;have hp:p∈(a,b)::uJ (b::l):=hp;rcases ZaC.mp hp with e|hp
  ·subst e;refine⟨h1.1 b Zax,Zax,Zat _ Zax,λy hy=>?_⟩;rcases ZaC.mp hy with e|hy
   ·left;show y<=a;lia
   ·right
    rcases ZaC.mp hy with e|hy
    ·show b<=y;lia
    ·have:=(ZbC.mp h1.2).1 y hy;show b<=y;lia
  ·obtain⟨q1,q2,q3,q4⟩:=Gu h1.2 p hp;refine⟨q1,Zat _ q2,Zat _ q3,λy hy=>?_⟩;rcases ZaC.mp hy with e|hy
   ·left
    have:=h1.1 p.1 q2;lia
   ·exact q4 y hy
theorem Tj{x:Int}:∀ {a:Int}{l:List Int},a<x->x ∉ l->(∃ y∈l,x<y)->∃ p∈uJ (a::l),p.1<x/\x<p.2
 |a,[],_,_,h=>by obtain⟨y,hy,_⟩:=h;cases hy
 |a,b::l,ha,hx,h=>by
  by_cases hb:x<b
  ·exact⟨(a,b),Zax,ha,hb⟩
  ·have ne:x≠b:=λe=>hx (by rw[e];exact Zax)
   obtain⟨y,hy,h2⟩:=h;have hy:y∈l:=by
    rcases ZaC.mp hy with e|hy
    ·subst e;exact absurd h2 hb
    ·exact hy
   obtain⟨p,hp,q⟩:=Tj (a:=b) (l:=l) (by lia) (λz=>hx (Zat _ z)) ⟨y,hy,h2⟩
   exact⟨p,Zat _ hp,q⟩
def gA(q:Nat->Bool)(L:Nat):List Int:=(-1)::((((List.range L).filter q).map λ(i:Nat)=>(i:Int))++[(L:Int)])
theorem BX{q:Nat->Bool}{L:Nat}{y:Int}:y∈gA q L↔y=-1\/(∃ i:Nat,i<L/\q i=true/\y=i)\/y=L:=by
 unfold gA;simp only[ZaC,ZaK,Zai,Zav,Zay,Zcj,or_false];constructor
 ·rintro(h|⟨i,⟨h1,h2⟩,rfl⟩|h)
  ·exact .inl h
  ·exact .inr (.inl ⟨i,h1,h2,rfl⟩)
  ·exact .inr (.inr h)
 ·rintro(h|⟨i,h1,h2,rfl⟩|h)
  ·exact .inl h
  ·exact .inr (.inl ⟨i,⟨h1,h2⟩,rfl⟩)
  ·exact .inr (.inr h)
theorem Gw(q:Nat->Bool)(L:Nat):(gA q L).Pairwise (·<·):=by
 unfold gA;rw[ZbC];refine⟨λy hy=>?_,?_⟩
 ·rcases ZaK.mp hy with hy|hy
  ·obtain⟨i,_,rfl⟩:=Zai.mp hy;omega
  ·simp at hy;omega
 ·rw[Zcc];refine⟨?_,by simp,λa ha b hb=>?_⟩
  ·rw[Zbj];exact(List.Pairwise.sublist Za5 List.pairwise_lt_range).imp λh=>by omega
  ·obtain⟨i,hi,rfl⟩:=Zai.mp ha;have:=Zay.mp (Zav.mp hi).1;simp at hb;omega
def w6(q:Nat->Bool)(L:Nat):List (Int×Int):=((uJ (gA q L)).filter λp=>decide (p.1+1<p.2)).map λp=>(p.1+1,p.2-1)
def uc(q:Nat->Bool)(L:Nat)(x:Int):Int×Int:=(λp:Int×Int=>(p.1+1,p.2-1)) (((uJ (gA q L)).find? λp=>decide (p.1<x/\x<p.2)).getD (0,0))
structure BZ(q:Nat->Bool)(L:Nat)(x:Int):Prop where
 x0:0<=x
 x1:x<L
 no:q x.toNat=false
section
variable{q:Nat->Bool}{L:Nat}{x y:Int}
theorem BZ.Wu(f:BZ q L x):x ∉ gA q L:=λh=>by
 rcases BX.mp h with e|⟨i,h1,h2,e⟩|e
 ·have:=f.x0;omega
 ·have:=f.no;rw[e,ZaD,h2] at this;cases this
 ·have:=f.x1;omega
theorem BZ.gap(f:BZ q L x):∃ p∈uJ (gA q L),p.1<x/\x<p.2/\uc q L x=(p.1+1,p.2-1):=by
 have ex:∃ p∈uJ (gA q L),p.1<x/\x<p.2:=Tj (by have:=f.x0;omega) (λz=>f.Wu (Zat _ z)) ⟨(L:Int),by simp,f.x1⟩
 cases e:(uJ (gA q L)).find? λp=>decide (p.1<x/\x<p.2) with
 |none=>
  obtain⟨p,h1,h2⟩:=ex;have:=List.find?_eq_none.mp e p h1;simp only[decide_eq_true_eq] at this;exact absurd h2 this
 |some p=>
  have h1:=List.find?_some e;simp only[decide_eq_true_eq] at h1;refine⟨p,List.mem_of_find?_eq_some e,h1.1,h1.2,?_⟩;unfold uc;rw[e];rfl
structure Run(q:Nat->Bool)(L:Nat)(p:Int×Int):Prop where
 a0:0<=p.1
 ab:p.1<=p.2
 b1:p.2<L
 fr:∀ y,p.1<=y->y<=p.2->BZ q L y
theorem Gx{p:Int×Int}(hp:p∈uJ (gA q L))(h:p.1+1<p.2):Run q L (p.1+1,p.2-1):=by
 obtain⟨h1,h2,h3,h4⟩:=Gu (Gw q L) p hp;have ge:∀ y∈gA q L,-1<=y/\y<=L:=λy hy=>by
  rcases BX.mp hy with e|⟨i,h1,h2,e⟩|e<;>lia
 have g2:=ge _ h2;have g3:=ge _ h3;refine⟨by show 0<=p.1+1;lia,by show p.1+1<=p.2-1;lia,by show p.2-1<L;lia,λy y1 y2=>?_⟩
 have y1:p.1+1<=y:=y1;have y2:y<=p.2-1:=y2;refine⟨by lia,by lia,?_⟩
 cases e:q y.toNat with
 |false=>rfl
 |true=>
  have:=h4 y (BX.mpr (.inr (.inl ⟨y.toNat,by lia,e,by lia⟩)))
  lia
theorem BZ.run(f:BZ q L x):Run q L (uc q L x)/\(uc q L x).1<=x/\x<=(uc q L x).2/\uc q L x∈w6 q L:=by
 obtain⟨p,h1,h2,h3,e⟩:=f.gap;rw[e];refine⟨Gx h1 (by lia),by show p.1+1<=x;lia,by show x<=p.2-1;lia,?_⟩
 exact Zai.mpr ⟨p,Zav.mpr ⟨h1,by simp only[decide_eq_true_eq];lia⟩,rfl⟩
theorem JG{p r:Int×Int}(hp:p∈uJ (gA q L))(hr:r∈uJ (gA q L))(h1:p.1<x)(h2:x<p.2)(h3:r.1<y)(h4:y<r.2)(hf:∀ z,(x<=z/\z<=y)\/(y<=z/\z<=x)->BZ q L z):p=r:=by
 obtain⟨_,a2,a3,a4⟩:=Gu (Gw q L) p hp;obtain⟨_,b2,b3,b4⟩:=Gu (Gw q L) r hr;have no:∀ z∈gA q L,¬((x<=z/\z<=y)\/(y<=z/\z<=x)):=λz hz h=>(hf z h).Wu hz;have c1:=no _ a2;have c2:=no _ a3;have c3:=no _ b2;have c4:=no _ b3;have d1:=b4 _ a2;have d2:=b4 _ a3;have d3:=a4 _ b2;have d4:=a4 _ b3;exact Zc5 (by omega) (by omega)
theorem Yd{p:Int×Int}(hp:p∈w6 q L)(h1:p.1<=x)(h2:x<=p.2):uc q L x=p:=by
 obtain⟨r,hr,rfl⟩:=Zai.mp hp;obtain⟨hr,hd⟩:=Zav.mp hr;simp only[decide_eq_true_eq] at hd;have h1:r.1+1<=x:=h1;have h2:x<=r.2-1:=h2;have f:BZ q L x:=(Gx hr hd).fr x h1 h2;obtain⟨p,k1,k2,k3,e⟩:=f.gap;rw[e,JG k1 hr k2 k3 (by lia:r.1<x) (by lia) λz hz=>by
  have:z=x:=by lia
  rw[this];exact f]
theorem Vw{p:Int×Int}(hp:p∈w6 q L):Run q L p:=by
 obtain⟨r,hr,rfl⟩:=Zai.mp hp;obtain⟨hr,hd⟩:=Zav.mp hr;simp only[decide_eq_true_eq] at hd;exact Gx hr hd
theorem Tn(hf:∀ z,(x<=z/\z<=y)\/(y<=z/\z<=x)->BZ q L z):uc q L x=uc q L y:=by
 obtain⟨p,k1,k2,k3,e⟩:=(hf x (by lia)).gap
 obtain⟨r,l1,l2,l3,e'⟩:=(hf y (by lia)).gap
 rw[e,e',JG k1 l1 k2 k3 l2 l3 hf]
end
def nA(w h:Int)(row:Bool):Nat:=(if row then w else h).toNat
def qOn(w:Int)(keep:Nat)(row:Bool)(l:Int):Nat->Bool:=λx=>keep.testBit (Mth.pl w.toNat (bV row l (x:Int)))
theorem Tp{l m:List Int}:K9 (l.map PV.int) (m.map PV.int)=(l.zip m).map λp=>PV.tup [.int p.1,.int p.2]:=by
 unfold K9;rw[List.zip_map,ZaS];rfl
theorem Ca{row:Bool}{l t:Int}(t0:0<=t):pX ((dz row l 0 t).map cellP)=(List.range (t+1).toNat).map λ(i:Nat)=>PV.tup [.int (i:Int),cellP (bV row l (i:Int))]:=by
 unfold dz pX;apply ZbG
 intro i;rw[Zca,Zac,Zac,Zac];rw[show t+1-0=t+1 by omega]
 by_cases hi:i<(t+1).toNat
 ·rw[Zbh hi];simp
 ·rw[ZaQ (by simpa using hi)];rfl
theorem Tq(ns:List Int)(h:ns≠[]):ur (ns.map PV.int) (some 1) none=ns.tail.map PV.int:=by
 cases ns with
 |nil=>exact absurd rfl h
 |cons n ns=>
  unfold ur;have e1:HT.sIx ((n::ns).map PV.int).length 0 (some 1)=1:=by
   unfold HT.sIx;simp
  have e2:HT.sIx ((n::ns).map PV.int).length ((n::ns).map PV.int).length none=ns.length+1:=by
   unfold HT.sIx;simp
  rw[e1,e2];show((ns.map PV.int).take (ns.length+1-1))=_
  rw[Nat.add_sub_cancel,List.take_of_length_le (by simp)]
  rfl
theorem JH{w h:Int}(sz:Sz w h)(keep:Nat){row:Bool}{l:Int}(l0:0<=l)(l1:l<if row then h else w) :
  fU [.tup [.int w,.int h],.int keep,.str (lO row),.int l]=some (.ok (.lst ((w6 (qOn w keep row l) (nA w h row)).map λp=>qe row l p.1 p.2))):=by
 have w0:=sz.w0;have w1:=sz.w1;have h0:=sz.h0;have h1:=sz.h1;obtain⟨L,eL,L0,L1⟩:∃ L:Int,(if row then w else h)=L/\1<=L/\L<=24:=⟨_,rfl,by split<;>lia,by split<;>lia⟩
 have eN:nA w h row=L.toNat:=by unfold nA;rw[eL]
 have kl:(gA (qOn w keep row l) L.toNat).length<=100:=by
  unfold gA;simp only[ZaP,Zas,Zab,Zcp];have:=ZaO (qOn w keep row l) (List.range L.toNat);rw[ZaB] at this;lia
 refine rQ (x:=fQ (startR [.tup [.int w,.int h],.int keep,.str (lO row),.int l] 3)) ?_;unfold fQ;rw[show startR [.tup [.int w,.int h],.int keep,.str (lO row),.int l] 3=[some (.sh (.tup [.int w,.int h])),some (.sh (.int keep)),some (.sh (.str (lO row))),some (.sh (.int l)),none,none,none] from rfl];walk_at "rd"
 rw[Eo,eL];walk_at "rd"
 rw[show PV.tup [.str (lO row),.int l,.int 0,.int (L-1)]=qe row l 0 (L-1) from rfl,xU (by lia) (by lia) (by lia)]
 walk_at "rd"
 have eLN:(L-1+1).toNat=L.toNat:=by congr 1;lia
 have le:(pX ((dz row l 0 (L-1)).map cellP)).length<=100:=by
  rw[Ca (by lia)]
  simp only[Zab,ZaB];lia
 have big:∀ {k:Nat},k<=9000->k<=sizeLine:=λh=>ZaA (CV (by lia))
 refine⟨by decide,by decide,big (by lia),?_⟩
 rw[Ca (by lia),eLN,fG (λ(i:Nat)=>PV.tup [.int (i:Int),cellP (bV row l (i:Int))]) (qOn w keep row l) (λ(i:Nat)=>PV.int (i:Int)) (List.range L.toNat) λi hi=>?a,tv_some]
 case a=>
  have hi:i<L.toNat:=Zay.mp hi;have cl:Cell w h (bV row l (i:Int)).1 (bV row l (i:Int)).2:=by
   unfold bV;cases row with
   |true=>exact⟨by show(0:Int)<=i;lia,by have:(if true then w else h)=L:=eL;rw[Zam rfl] at this;show(i:Int)<w;lia,l0,by simpa using l1⟩
   |false=>exact⟨l0,by simpa using l1,by show(0:Int)<=i;lia,by have:(if false then w else h)=L:=eL;rw[Zal (by decide)] at this;show(i:Int)<h;lia⟩
  refine⟨_,rfl,fC ?_,λ_=>rfl⟩;walk_at "rd"
  rw[Td sz cl];walk_at "rd"
  rfl
 have ek:PV.int (-1)::(((List.range L.toNat).filter (qOn w keep row l)).map (λ(i:Nat)=>PV.int (i:Int))++[PV.int (L-1+1)])=(gA (qOn w keep row l) L.toNat).map PV.int:=by
  unfold gA;rw[Zaq,ZaW,ZaS,show L-1+1=((L.toNat:Nat):Int) by lia]
  rfl
 have lf:((List.range L.toNat).filter (qOn w keep row l)).length<=L.toNat:=by
  have:=ZaO (qOn w keep row l) (List.range L.toNat)
  rwa [ZaB] at this
 rw[ek];have ec:ur ((gA (qOn w keep row l) L.toNat).map PV.int) (some 1) none=(gA (qOn w keep row l) L.toNat).tail.map PV.int:=by
  exact Tq _ (by unfold gA;simp)
 rw[ec,Tp];refine⟨by rw[Zab];exact big (by lia),by decide,by rw[Zab];exact big (by lia),?_,?_⟩
 ·rw[Zab];refine big ?_;rw[List.length_zip];lia
 rw[fG (λp:Int×Int=>PV.tup [.int p.1,.int p.2]) (λp=>decide (p.1+1<p.2)) (λp=>qe row l (p.1+1) (p.2-1)) _ λp _=>⟨_,rfl,fC ?b,λ_=>fC ?c⟩,tv_some]
 case b=>walk_at "rd"
 case c=>
  walk_at "rd"
  exact⟨by decide,rfl⟩
 rw[eN];unfold w6 uJ;rw[ZaS];rfl
def lnOf(row:Bool)(c:Int×Int):Int:=if row then c.2 else c.1
def xY(row:Bool)(c:Int×Int):Int:=if row then c.1 else c.2
def runC(w h:Int)(keep:Nat)(row:Bool)(c:Int×Int):Int×Int:=uc (qOn w keep row (lnOf row c)) (nA w h row) (xY row c)
def stS(w h:Int)(keep:Nat)(row:Bool)(c:Int×Int):Sk:=(lO row,[lnOf row c,(runC w h keep row c).1,(runC w h keep row c).2])
def ckK(c:Int×Int):List Key:=[.inl c.1,.inl c.2]
theorem Wv(row:Bool)(l x:Int):lnOf row (bV row l x)=l:=by cases row<;>rfl
theorem Ww(row:Bool)(l x:Int):xY row (bV row l x)=x:=by cases row<;>rfl
theorem Wx(row:Bool)(c:Int×Int):bV row (lnOf row c) (xY row c)=c:=by cases row<;>rfl
theorem Vx{c d:Int×Int}(e:ckK c=ckK d):c=d:=by
 unfold ckK at e;rw[ZbJ,ZbJ] at e;exact Zc5 (Zb3 e.1) (Zb3 e.2.1)
def Kn(w h:Int)(keep:Nat)(row:Bool)(d:List (List Key×PV))(c:Int×Int):Prop:=cI d (ckK c)=some (skP (stS w h keep row c))
theorem Kn.put{w h:Int}{keep:Nat}{row:Bool}{d:List (List Key×PV)}{c:Int×Int}(k:Int×Int)(h':Kn w h keep row d c):Kn w h keep row (gY d (ckK k) (skP (stS w h keep row k))) c:=by
 unfold Kn;rw[oK];by_cases e:ckK c=ckK k
 ·rw[Zam e,Vx e]
 ·rw[Zal e];exact h'
theorem Kn.new{w h:Int}{keep:Nat}{row:Bool}{d:List (List Key×PV)}(k:Int×Int):Kn w h keep row (gY d (ckK k) (skP (stS w h keep row k))) k:=by
 unfold Kn;rw[oK,Zam rfl]
theorem xf{w h:Int}{keep:Nat}{row:Bool}{c:Int×Int}(cl:Cell w h c.1 c.2)(no:keep.testBit (Mth.pl w.toNat c)=false):BZ (qOn w keep row (lnOf row c)) (nA w h row) (xY row c):=by
 have c0:=cl.c0;have c1:=cl.c1;have r0:=cl.r0;have r1:=cl.r1;unfold nA;cases row with
 |true=>
  refine⟨c0,by show c.1<_;simp;lia,?_⟩
  show keep.testBit (Mth.pl w.toNat (((c.1.toNat:Nat):Int),c.2))=false
  rw[Zbv c0];exact no
 |false=>
  refine⟨r0,by show c.2<_;simp;lia,?_⟩
  show keep.testBit (Mth.pl w.toNat (c.1,((c.2.toNat:Nat):Int)))=false
  rw[Zbv r0];exact no
theorem ln0{w h:Int}{c:Int×Int}(cl:Cell w h c.1 c.2)(row:Bool):0<=lnOf row c:=by
 cases row
 ·exact cl.c0
 ·exact cl.r0
def LbD(w h:Int)(keep:Nat)(row:Bool)(d:List (List Key×PV))(i:Nat):Prop:=∀ c:Int×Int,Cell w h c.1 c.2->keep.testBit (Mth.pl w.toNat c)=false->lnOf row c<i->Kn w h keep row d c
def LbR(w h:Int)(keep:Nat)(row:Bool)(d:List (List Key×PV))(i j:Nat):Prop:=∀ (m:Nat) p (y:Int),m<j->(w6 (qOn w keep row (i:Int)) (nA w h row))[m]?=some p->p.1<=y->y<=p.2->Kn w h keep row d (bV row i y)
inductive LbI(w h:Int)(keep:Nat)(row:Bool)(i:Nat):Rho->Prop
 |mk (d:List (List Key×PV)) (v4 v5 v6:Option Sl) (dl:d.length<=i*700) (hd:LbD w h keep row d i):LbI w h keep row i [some (.sh (.tup [.int w,.int h])),some (.sh (.int keep)),some (.sh (.str (lO row))),some (.ow (.dt d)),v4,v5,v6]
inductive LbJ(w h:Int)(keep:Nat)(row:Bool)(i j:Nat):Rho->Prop
 |mk (d:List (List Key×PV)) (v5 v6:Option Sl) (dl:d.length<=i*700+j*25) (hd:LbD w h keep row d i) (hr:LbR w h keep row d i j):LbJ w h keep row i j [some (.sh (.tup [.int w,.int h])),some (.sh (.int keep)),some (.sh (.str (lO row))),some (.ow (.dt d)),some (.sh (.int (i:Int))),v5,v6]
inductive LbK(w h:Int)(keep:Nat)(row:Bool)(i j:Nat)(p:Int×Int)(k:Nat):Rho->Prop
 |mk (d:List (List Key×PV)) (v6:Option Sl) (dl:d.length<=i*700+j*25+k) (hd:LbD w h keep row d i) (hr:LbR w h keep row d i j) (hk:∀ y:Int,p.1<=y->y<p.1+k->Kn w h keep row d (bV row i y)):LbK w h keep row i j p k [some (.sh (.tup [.int w,.int h])),some (.sh (.int keep)),some (.sh (.str (lO row))),some (.ow (.dt d)),some (.sh (.int (i:Int))),some (.sh (qe row i p.1 p.2)),v6]
theorem Tr{w h:Int}(sz:Sz w h)(keep:Nat)(row:Bool):∃ d,dm [.tup [.int w,.int h],.int keep,.str (lO row)]=some (.ok (.dt d))/\∀ c:Int×Int,Cell w h c.1 c.2->keep.testBit (Mth.pl w.toNat c)=false->Kn w h keep row d c:=by
 have w0:=sz.w0;have w1:=sz.w1;have h0:=sz.h0;have h1:=sz.h1;obtain⟨n,en,n1,n2⟩:∃ n:Int,(if row then h else w)=n/\1<=n/\n<=24:=⟨_,rfl,by split<;>lia,by split<;>lia⟩
 have L24:nA w h row<=24:=by unfold nA;split<;>lia
 suffices hh:∃ p,dm [.tup [.int w,.int h],.int keep,.str (lO row)]=some (.ok p)/\∃ d,p=.dt d/\∀ c:Int×Int,Cell w h c.1 c.2->keep.testBit (Mth.pl w.toNat c)=false->Kn w h keep row d c by
  obtain⟨p,e,d,rfl,q⟩:=hh;exact⟨d,e,q⟩
 refine wz (Ny λQS hQ0=>?_);unfold jx;rw[show startR [.tup [.int w,.int h],.int keep,.str (lO row)] 4=[some (.sh (.tup [.int w,.int h])),some (.sh (.int keep)),some (.sh (.str (lO row))),none,none,none,none] from rfl];walk_at "rd"
 rw[Jz,en];walk_at "rd"
 refine⟨by lia,by lia,?_⟩
 refine dJ (I:=LbI w h keep row)
  (.mk [] none none none (Za4 _) λc cl _ hl=>absurd hl (by have:=ln0 cl row;lia)) ?_ ?_
 case refine_2=>
  rintro _ ⟨d,v4,v5,v6,_,hd⟩;walk_at "rd"
  unfold lD;walk_at "rd"
  refine hQ0 _ ⟨_,rfl,d,rfl,λc cl no=>hd c cl no ?_⟩;rw[iU];have:lnOf row c<n:=by rw[<-en];unfold lnOf;cases row;exact cl.c1;exact cl.r1
  lia
 rintro i x _ hx ⟨d,v4,v5,v6,dl,hd⟩;refine Js λQS hQ=>?_;obtain⟨hi,rfl⟩:=Gm hx;rw[Int.zero_add];unfold lC;walk_at "rd"
 rw[JH sz keep (by lia) (by rw[en];lia)]
 walk_at "rd"
 have rl:(w6 (qOn w keep row (i:Int)) (nA w h row)).length<=26:=by
  unfold w6 uJ;rw[Zab];refine ZaI (ZaO _ _) ?_;rw[List.length_zip];refine ZaI (Nat.min_le_left _ _) ?_;unfold gA;have:=ZaO (qOn w keep row (i:Int)) (List.range (nA w h row));rw[ZaB] at this;simp only[ZaP,Zas,Zab,Zcp];lia
 refine dJ (I:=LbJ w h keep row i)
  (.mk d v5 v6 (by lia) hd λm p y hm=>absurd hm (Zby _)) ?_ ?_
 case refine_2=>
  rintro _ ⟨d,v5,v6,dl,hd,hr⟩;rw[Zab] at dl hr;refine hQ _ (.mk d _ v5 v6 (by lia) λc cl no hl=>?_)
  by_cases e:lnOf row c<i
  ·exact hd c cl no e
  ·have e:lnOf row c=i:=by lia
   have fr:=xf (row:=row) cl no;obtain⟨_,f1,f2,f3⟩:=fr.run;obtain⟨m,hm⟩:=ZaZ f3;rw[e] at hm f1 f2;have:=hr m _ (xY row c) (Zad.mp hm).1 hm f1 f2;rw[<-e,Wx] at this;exact this
 clear hQ
 rintro j x _ hx ⟨d,v5,v6,dl,hd,hr⟩;refine Js λQS hQ=>?_;rw[Zac] at hx;cases ep:(w6 (qOn w keep row (i:Int)) (nA w h row))[j]? with
 |none=>rw[ep] at hx;cases hx
 |some p=>
  rw[ep] at hx;cases hx;have hp:=Zak ep;have pr:=Vw hp;have jl:j<26:=by have:=(Zad.mp ep).1;lia
  have a0:=pr.a0;have ab:=pr.ab;have b1:=pr.b1;unfold lz;walk_at "rd"
  rw[xU a0 ab (by lia)]
  walk_at "rd"
  refine dJ (I:=LbK w h keep row i j p)
   (.mk d v6 (by lia) hd hr λy h1 h2=>by lia) ?_ ?_
  case refine_2=>
   rintro _ ⟨d,v6,dl,hd,hr,hk⟩;have lc:((dz row (i:Int) p.1 p.2).map cellP).length=(p.2+1-p.1).toNat:=by unfold dz;simp
   rw[lc] at dl hk;refine hQ _ (.mk d _ v6 (by lia) hd λm p' y hm e h1 h2=>?_)
   by_cases e':m=j
   ·subst e';rw[ep] at e;cases e;exact hk y h1 (by lia)
   ·exact hr m p' y (by lia) e h1 h2
  clear hQ
  rintro k x _ hx ⟨d,v6,dl,hd,hr,hk⟩;refine Js λQS hQ=>?_;rw[Zac] at hx;cases ec:(dz row (i:Int) p.1 p.2)[k]? with
  |none=>rw[ec] at hx;cases hx
  |some c=>
   rw[ec] at hx;cases hx;have kl:k<(p.2+1-p.1).toNat:=by have:=(Zad.mp ec).1;simpa[dz] using this
   have hc:c=bV row i (p.1+(k:Int)):=by
    unfold dz at ec;rw[Zac,Zbh kl] at ec;exact(Zaf ec).symm
   have es:qe row (i:Int) p.1 p.2=skP (stS w h keep row c):=by
    have:=Yd hp (x:=p.1+(k:Int)) (by lia) (by lia)
    unfold stS runC;rw[hc,Wv,Ww,this];rfl
   unfold lw;walk_at "rd"
   refine⟨.dt (gY d (ckK c) (skP (stS w h keep row c))),?_,hQ _ (.mk _ _ ?_ (λc' cl no hl=>(hd c' cl no hl).put c) (λm p' y hm e h1 h2=>(hr m p' y hm e h1 h2).put c) λy h1 h2=>?_)⟩
   ·rw[es];show(if d.length<sizeLine then some (PV.dt (gY d (ckK c) (skP (stS w h keep row c)))) else none)=_
    exact Zam (CV (by lia))
   ·have:=qK (ckK c) (skP (stS w h keep row c)) d;lia
   ·by_cases e:y<p.1+(k:Int)
    ·exact(hk y h1 e).put c
    ·have:y=p.1+(k:Int):=by lia
     rw[this,<-hc];exact Kn.new c
def mR(l:List Sk)(s:Sk):List Sk:=if s∈l then l else l++[s]
def ddp(xs:List Sk):List Sk:=xs.foldl mR []
theorem Tt(xs:List Sk)(s:Sk):ddp (xs++[s])=mR (ddp xs) s:=by
 unfold ddp;rw[List.foldl_append];rfl
theorem Gy:∀ (xs acc:List Sk),acc.Nodup->(xs.foldl mR acc).Nodup/\(∀ s,s∈xs.foldl mR acc↔s∈acc\/s∈xs)/\(xs.foldl mR acc).length<=acc.length+xs.length
 |[],acc,nd=>⟨nd,λs=>by simp,by simp⟩
 |x::xs,acc,nd=>by
  have nd2:(mR acc x).Nodup:=by
   unfold mR;split
   ·exact nd
   ·rename_i h;rw[Zbi];exact⟨nd,by simp,λa ha b hb e=>by simp at hb;subst hb;subst e;exact h ha⟩
  have mem:∀ s,s∈mR acc x↔s∈acc\/s=x:=λs=>by
   unfold mR;split
   ·rename_i h;exact⟨.inl,λq=>q.elim id λe=>by rw[e];exact h⟩
   ·rw[ZaK,Za2]
  have len:(mR acc x).length<=acc.length+1:=by unfold mR;split<;>simp
  obtain⟨h1,h2,h3⟩:=Gy xs (mR acc x) nd2;refine⟨h1,λs=>?_,?_⟩
  ·show s∈xs.foldl mR (mR acc x)↔_
   rw[h2,mem,ZaC,or_assoc]
  ·show(xs.foldl mR (mR acc x)).length<=_
   rw[ZaP];lia
theorem Ls(xs:List Sk):(ddp xs).Nodup:=(Gy xs [] ZcM).1
theorem fX{xs:List Sk}{s:Sk}:s∈ddp xs↔s∈xs:=by have:=(Gy xs [] ZcM).2.1 s;simpa[ddp] using this
theorem Oc(xs:List Sk):(ddp xs).length<=xs.length:=by have:=(Gy xs [] ZcM).2.2;simpa[ddp] using this
theorem JK{f:Sk->PV}{s:Sk}:∀ {ks:List Sk},cI (ks.map λt=>(skK t,f t)) (skK s)=if s∈ks then some (f s) else none
 |[]=>rfl
 |t::ks=>by
  rw[Zaq];unfold cI;by_cases e:t=s
  ·subst e;rw[Zam rfl,Zam Zax]
  ·rw[Zal (λz=>e (zu z)),JK];by_cases h:s∈ks
   ·rw[Zam h,Zam (Zat _ h)]
   ·rw[Zal h,Zal (λz=>h ((ZaC.mp z).resolve_left (Zbl e)))]
theorem Od{f:Sk->PV}{s:Sk}{p:PV}:∀ {ks:List Sk},ks.Nodup->cJ (ks.map λt=>(skK t,f t)) (skK s) p=(mR ks s).map λt=>(skK t,if t=s then p else f t)
 |[],_=>by simp[cJ,mR]
 |t::ks,nd=>by
  rw[Zbs] at nd;have ih:=Od (f:=f) (s:=s) (p:=p) nd.2;rw[Zaq];unfold cJ;by_cases e:t=s
  ·subst e;rw[Zam rfl,show mR (t::ks) t=t::ks from Zam Zax,Zaq,Zam rfl];congr 1
   exact Za3 λu hu=>by rw[Zal (λz=>nd.1 (by rw[<-z];exact hu))]
  ·rw[Zal (λz=>e (zu z)),ih];have:mR (t::ks) s=t::mR ks s:=by
    unfold mR;by_cases h:s∈ks
    ·rw[Zam h,Zam (Zat _ h)]
    ·rw[Zal h,Zal (λz=>h ((ZaC.mp z).resolve_left (Zbl e)))];rfl
   rw[this,Zaq,Zal e]
def mK(r c:Int×Int->Sk)(cs:List (Int×Int))(s:Sk):List PV:=(cs.filter λx=>decide (r x=s)).map λx=>skP (c x)
def mL(r c:Int×Int->Sk)(cs:List (Int×Int)):List (List Key×PV):=(ddp (cs.map r)).map λs=>(skK s,.lst (mK r c cs s))
theorem JL{r c:Int×Int->Sk}{cs:List (Int×Int)}{s:Sk}(h:s ∉ ddp (cs.map r)):mK r c cs s=[]:=by
 unfold mK;rw[List.filter_eq_nil_iff.mpr λx hx=>?_]
 ·rfl
 ·simp only[decide_eq_true_eq];exact λe=>h (fX.mpr (Zai.mpr ⟨x,hx,e⟩))
theorem Qd{r c:Int×Int->Sk}{cs:List (Int×Int)}{s:Sk}:(cI (mL r c cs) (skK s)).getD (.lst [])=.lst (mK r c cs s):=by
 unfold mL;rw[JK (f:=λs=>.lst (mK r c cs s))];by_cases h:s∈ddp (cs.map r)
 ·rw[Zam h];rfl
 ·rw[Zal h,JL h];rfl
theorem Lw{r c:Int×Int->Sk}{cs:List (Int×Int)}{x:Int×Int}:cJ (mL r c cs) (skK (r x)) (.lst (mK r c cs (r x)++[skP (c x)]))=mL r c (cs++[x]):=by
 unfold mL;rw[Od (f:=λs=>.lst (mK r c cs s)) (Ls _),ZaW,Zaq,Zcu,Tt];refine Za3 λt _=>?_;congr 1
 unfold mK;rw[List.filter_append,ZaW];by_cases e:t=r x
 ·rw[Zam e,e];simp
 ·rw[Zal e];rw[show List.filter (λx=>decide (r x=t)) [x]=[] by simp[Zbl e]]
  simp
theorem Qe{i:Nat}{fk fe:Fn PV}{Z:Rho}{l:List (List Key×PV)}{s:Sk}{row:List PV}{q:PV}{QS:Out->Prop}(hl:Z[i]?=some (some (.dp (.dt l))))(len:l.length<sizeLine)(hk:fk Z=some (.ok (skP s)))(hr:(cI l (skK s)).getD (.lst [])=.lst row)
  (he:fe (Z.set i (some (.dp (.dt (cJ l (skK s) (.lst row))))))=some (.ok q))(st:q.still=true)(rl:row.length<sizeLine)(hq:QS (.nx (Z.set i (some (.dp (.dt (cJ l (skK s) (.lst (row++[q])))))))))
  : To (wj i fk fe Z) QS:=by
 refine⟨.nx _,?_,trivial,hq⟩;unfold wj;rw[show qG i Z=some (.dt l) by unfold qG;rw[hl]]
 simp only[Zam len,hk,fZ];show(match gm (.str s.1::s.2.map PV.int) with
   |some k=>_
   |none=>_)=_
 rw[xV];simp only[hr,he,fZ];rw[Zam ⟨st,rl⟩]
noncomputable abbrev cg(w h:Int)(away:Nat):List (Int×Int):=Mth.pick w.toNat (w.toNat*h.toNat) λi=>away.testBit i
theorem mO{w h:Int}{away:Nat}{c:Int×Int}(hc:c∈cg w h away):Cell w h c.1 c.2/\away.testBit (Mth.pl w.toNat c)=true:=by
 unfold cg Mth.pick at hc;obtain⟨i,hi,rfl⟩:=Zai.mp hc;obtain⟨h1,h2⟩:=Zav.mp hi;exact⟨Cell.of (Mth.xJ (Zay.mp h1)),by rw[Mth.rC];exact h2⟩
theorem Tu{w h:Int}(sz:Sz w h)(away keep:Nat)(dis:∀ c∈cg w h away,keep.testBit (Mth.pl w.toNat c)=false) :
  j4 [.tup [.int w,.int h],.int away,.int keep]=some (.ok (.dt (mL (stS w h keep true) (stS w h keep false) (cg w h away)))):=by
 obtain⟨d1,e1,k1⟩:=Tr sz keep true;obtain⟨d2,e2,k2⟩:=Tr sz keep false;have hn:=sz.nat;have ln:(cg w h away).length<=576:=ZaI (Mth.nY _ _ _) hn.2
 suffices hh:∃ p,j4 [.tup [.int w,.int h],.int away,.int keep]=some (.ok p)/\p=.dt (mL (stS w h keep true) (stS w h keep false) (cg w h away)) by
  obtain⟨p,e,rfl⟩:=hh;exact e
 refine zp ?_;unfold qO;rw[show startR [.tup [.int w,.int h],.int away,.int keep] 4=[some (.sh (.tup [.int w,.int h])),some (.sh (.int away)),some (.sh (.int keep)),none,none,none,none] from rfl];walk_at "rd"
 rw[show PV.str "row"=.str (lO true) from rfl,e1];walk_at "rd"
 rw[show PV.str "column"=.str (lO false) from rfl,e2];walk_at "rd"
 refine⟨.dt [],rfl,?_⟩;rw[qT sz away];walk_at "rd"
 refine dJ (I:=λi Z=>∃ v6:Option Sl,Z=[some (.sh (.tup [.int w,.int h])),some (.sh (.int away)),some (.sh (.int keep)),some (.sh (.dt d1)),some (.sh (.dt d2)),some (.dp (.dt (mL (stS w h keep true) (stS w h keep false) ((cg w h away).take i)))),v6]) ⟨none,rfl⟩ ?_ ?_
 case refine_2=>
  rintro Z ⟨v6,rfl⟩;walk_at "rd"
  unfold tR;walk_at "rd"
  rw[Zab,ZcB]
 rintro i x Z hx ⟨v6,rfl⟩;rw[Zac] at hx;cases ec:(cg w h away)[i]? with
 |none=>rw[ec] at hx;cases hx
 |some c=>
  rw[ec] at hx;cases hx;have hc:=Zak ec;obtain⟨cl,_⟩:=mO hc;have no:=dis c hc;have il:i<(cg w h away).length:=(Zad.mp ec).1;have tl:((cg w h away).take i).length<=576:=by rw[Zcx];lia
  have f1:dY (.dt d1) (cellP c)=some (some (skP (stS w h keep true c))):=ZaY some (k1 c cl no);have f2:dY (.dt d2) (cellP c)=some (some (skP (stS w h keep false c))):=ZaY some (k2 c cl no);unfold tQ;refine Qe (s:=stS w h keep true c) (row:=mK (stS w h keep true) (stS w h keep false) ((cg w h away).take i) (stS w h keep true c)) (q:=skP (stS w h keep false c)) rfl (CV ?_) (fC ?_) Qd (fC ?_) (BR _) (CV ?_) ?_
  ·unfold mL;rw[Zab];have:=Oc (((cg w h away).take i).map (stS w h keep true));rw[Zab] at this;lia
  ·walk_at "rd"
   exact⟨_,f1,rfl⟩
  ·walk_at "rd"
   exact⟨_,f2,rfl⟩
  ·unfold mK;rw[Zab];have:=ZaO (λx=>decide (stS w h keep true x=stS w h keep true c)) ((cg w h away).take i);lia
  ·rw[Lw,<-take_snoc ec];exact⟨_,rfl⟩
theorem sub_len{α:Type}[DecidableEq α]:∀ {l k:List α},l.Nodup->(∀ x∈l,x∈k)->l.length<=k.length
 |[],k,_,_=>Za4 _
 |a::l,k,nd,h=>by
  have ha:a∈k:=h a Zax;have nd':=Zbs.mp nd;have:=sub_len (l:=l) (k:=k.erase a) nd'.2 λx hx=>(Zcd (λe:x=a=>nd'.1 (by rw[<-e];exact hx))).mpr (h x (Zat _ hx))
  rw[Zcn ha] at this;have:0<k.length:=List.length_pos_of_mem ha;simp only[ZaP];lia
structure KOk(ks:List Sk):Prop where
 nd:ks.Nodup
 ln:∀ s∈ks,s.2.length=3
 tx:∀ s∈ks,s.1≠("":Str)
def gV(ks:List Sk)(i:Nat):Sk:=if i<ks.length then ks.getD i default else(("":Str),[(i:Int),0,0])
section
variable{ks:List Sk}
theorem pO{i:Nat}(h:i<ks.length):gV ks i∈ks:=by
 unfold gV;rw[Zam h,Zao,Zae h];exact ZbY h
theorem Gz{i:Nat}(h:i<ks.length):ks[i]?=some (gV ks i):=by
 unfold gV;rw[Zam h,Zao,Zae h];rfl
theorem KOk.inj(k:KOk ks)(i j:Nat)(e:gV ks i=gV ks j):i=j:=by
 by_cases hi:i<ks.length
 ·by_cases hj:j<ks.length
  ·exact(Zb8 hi k.nd).mp (by rw[Gz hi,Gz hj,e])
  ·have:=k.tx _ (pO hi);rw[e] at this;unfold gV at this;rw[Zal hj] at this;exact absurd rfl this
 ·by_cases hj:j<ks.length
  ·have:=k.tx _ (pO hj);rw[<-e] at this;unfold gV at this;rw[Zal hi] at this;exact absurd rfl this
  ·unfold gV at e;rw[Zal hi,Zal hj] at e;have e:=(Prod.mk.inj e).2;rw[ZbJ] at e;omega
theorem KOk.l3(k:KOk ks)(i:Nat):(gV ks i).2.length=3:=by
 by_cases hi:i<ks.length
 ·exact k.ln _ (pO hi)
 ·unfold gV;rw[Zal hi];rfl
def JM(ks:List Sk)(s:Sk):Nat:=ks.findIdx λt=>decide (t=s)
theorem xZ{s:Sk}(h:s∈ks):JM ks s<ks.length/\gV ks (JM ks s)=s:=by
 have hl:JM ks s<ks.length:=List.findIdx_lt_length_of_exists ⟨s,h,by simp⟩
 refine⟨hl,?_⟩;have:=List.findIdx_getElem (w:=hl);simp only[decide_eq_true_eq] at this;unfold gV;rw[Zam hl,Zao,Zae hl];exact this
end
def Gof{ks ls:List Sk}(h1:KOk ks)(h2:KOk ls):Gs:=⟨gV ks,gV ls,h1.inj,h2.inj,h1.l3,h2.l3⟩
def Wof(r c:Int×Int->Sk)(cs:List (Int×Int))(i:Nat):List Nat:=(cs.filter λx=>decide (r x=gV (ddp (cs.map r)) i)).map λx=>JM (ddp (cs.map c)) (c x)
section
variable{r c:Int×Int->Sk}{cs:List (Int×Int)}
theorem Ye{i g:Nat}(h:g∈Wof r c cs i):g<(ddp (cs.map c)).length:=by
 obtain⟨x,hx,rfl⟩:=Zai.mp h;exact(xZ (fX.mpr (Zai.mpr ⟨x,(Zav.mp hx).1,rfl⟩))).1
theorem Tw{i g:Nat}(h:g∈Wof r c cs i):∃ x∈cs,r x=gV (ddp (cs.map r)) i/\c x=gV (ddp (cs.map c)) g:=by
 obtain⟨x,hx,rfl⟩:=Zai.mp h;have h1:=Zav.mp hx;exact⟨x,h1.1,by simpa using h1.2,(xZ (fX.mpr (Zai.mpr ⟨x,h1.1,rfl⟩))).2.symm⟩
theorem Yg{x:Int×Int}(h:x∈cs):JM (ddp (cs.map c)) (c x)∈Wof r c cs (JM (ddp (cs.map r)) (r x)):=by
 refine Zai.mpr ⟨x,Zav.mpr ⟨h,?_⟩,rfl⟩;simp only[decide_eq_true_eq];exact(xZ (fX.mpr (Zai.mpr ⟨x,h,rfl⟩))).2.symm
theorem Zo(h1:KOk (ddp (cs.map r)))(h2:KOk (ddp (cs.map c))):PV.dt (mL r c cs)=wiP (Gof h1 h2) (ddp (cs.map r)).length (Wof r c cs):=by
 unfold wiP mL;congr 1
 apply ZbG
 intro i;rw[Zac,Zac];by_cases hi:i<(ddp (cs.map r)).length
 ·rw[Zbh hi,Gz hi];show some (_,_)=some (_,_)
  congr 2
  show PV.lst _=PV.lst _
  congr 1
  unfold mK Gs.GL Wof;rw[ZaS];refine Za3 λx hx=>?_;show skP (c x)=skP (gV (ddp (cs.map c)) (JM (ddp (cs.map c)) (c x)))
  rw[(xZ (fX.mpr (Zai.mpr ⟨x,(Zav.mp hx).1,rfl⟩))).2]
 ·rw[ZaQ (by simpa using hi),ZaQ (by simpa using hi)];rfl
end
noncomputable abbrev StB:=Bool×Int×Int×Int
structure Cov(w h:Int)(away keep:Nat)(S:List StB):Prop where
 on:∀ s∈S,∀ x,s.2.2.1<=x->x<=s.2.2.2->Cell w h (bV s.1 s.2.1 x).1 (bV s.1 s.2.1 x).2/\keep.testBit (Mth.pl w.toNat (bV s.1 s.2.1 x))=false
 all:∀ c:Int×Int,Cell w h c.1 c.2->away.testBit (Mth.pl w.toNat c)=true->∃ s∈S,lnOf s.1 c=s.2.1/\s.2.2.1<=xY s.1 c/\xY s.1 c<=s.2.2.2
theorem Tz{w h:Int}{keep:Nat}{row:Bool}{l f t:Int}(on:∀ x,f<=x->x<=t->Cell w h (bV row l x).1 (bV row l x).2/\keep.testBit (Mth.pl w.toNat (bV row l x))=false){c d:Int×Int}
  (c1:lnOf row c=l)(c2:f<=xY row c)(c3:xY row c<=t)(d1:lnOf row d=l)(d2:f<=xY row d)(d3:xY row d<=t):stS w h keep row c=stS w h keep row d:=by
 have e:runC w h keep row c=runC w h keep row d:=by
  unfold runC;rw[c1,d1];refine Tn λz hz=>?_;obtain⟨q1,q2⟩:=on z (by lia) (by lia)
  have:=xf (row:=row) q1 q2;rw[Wv,Ww] at this;exact this
 unfold stS;rw[e,c1,d1]
theorem TF{w h:Int}{keep:Nat}{row:Bool}{c:Int×Int}(cl:Cell w h c.1 c.2)(no:keep.testBit (Mth.pl w.toNat c)=false){x:Int}(h1:(runC w h keep row c).1<=x)(h2:x<=(runC w h keep row c).2) :
  Cell w h (bV row (lnOf row c) x).1 (bV row (lnOf row c) x).2/\keep.testBit (Mth.pl w.toNat (bV row (lnOf row c) x))=false:=by
 have fr:=((xf (row:=row) cl no).run).1.fr x h1 h2;have x0:=fr.x0;have x1:=fr.x1;have nb:=fr.no;unfold qOn at nb;rw[Zbv x0] at nb;refine⟨?_,nb⟩;unfold nA at x1;cases row with
 |true=>exact⟨x0,by have:x<((if true=true then w else h).toNat:Int):=x1;rw[Zam rfl] at this;have:=cl.c0;have:=cl.c1;show x<w;omega,cl.r0,cl.r1⟩
 |false=>exact⟨cl.c0,cl.c1,x0,by have:x<((if false=true then w else h).toNat:Int):=x1;rw[Zal (by decide)] at this;have:=cl.r0;have:=cl.r1;show x<h;omega⟩
theorem j7(a b:Nat):Builtin.bitAnd (a:Int) (b:Int)=((a &&& b:Nat):Int):=by
 rw[bitAnd_pp (Za1 _) (Za1 _),ZaD,ZaD]
def toB(s:Sk):StB:=(decide (s.1=Str.ofString "row"),s.2.getD 0 0,s.2.getD 1 0,s.2.getD 2 0)
theorem Cd(w h:Int)(keep:Nat)(row:Bool)(c:Int×Int):toB (stS w h keep row c)=(row,lnOf row c,(runC w h keep row c).1,(runC w h keep row c).2):=by
 unfold toB stS;rw[Vr];rfl
theorem GC(w h:Int)(keep:Nat)(row:Bool)(cs:List (Int×Int)):KOk (ddp (cs.map (stS w h keep row))) where
 nd:=Ls _
 ln:=λs hs=>by obtain⟨x,_,rfl⟩:=Zai.mp (fX.mp hs);rfl
 tx:=λs hs=>by
  obtain⟨x,_,rfl⟩:=Zai.mp (fX.mp hs);cases row
  ·show Str.ofString "column"≠_;decide
  ·show Str.ofString "row"≠_;decide
section
variable{w h:Int}{away keep:Nat}{A B B':List (Nat×Nat)}{R:List Nat}{cb:List (Nat×Nat)}
noncomputable abbrev ksN(w h:Int)(away keep:Nat)(row:Bool):List Sk:=ddp ((cg w h away).map (stS w h keep row))
noncomputable abbrev WN(w h:Int)(away keep:Nat):Nat->List Nat:=Wof (stS w h keep true) (stS w h keep false) (cg w h away)
def GF(w h:Int)(away keep:Nat)(R:List Nat)(cb:List (Nat×Nat)):List Sk:=((List.range (ksN w h away keep true).length).filter λa=>!R.contains a).map (gV (ksN w h away keep true))++cb.map λp=>gV (ksN w h away keep false) p.1
theorem GJ{s:Sk}(wl:∀ p∈cb,p.1<(ksN w h away keep false).length)(hs:s∈GF w h away keep R cb):∃ row,∃ x∈cg w h away,s=stS w h keep row x:=by
 rcases ZaK.mp hs with hs|hs
 ·obtain⟨a,ha,rfl⟩:=Zai.mp hs;obtain⟨x,hx,e⟩:=Zai.mp (fX.mp (pO (Zay.mp (Zav.mp ha).1)));exact⟨true,x,hx,e.symm⟩
 ·obtain⟨p,hp,rfl⟩:=Zai.mp hs;obtain⟨x,hx,e⟩:=Zai.mp (fX.mp (pO (wl p hp)));exact⟨false,x,hx,e.symm⟩
theorem Vy(dis:∀ c∈cg w h away,keep.testBit (Mth.pl w.toNat c)=false)(wl:∀ p∈cb,p.1<(ksN w h away keep false).length)(hc:∀ a∈R,∀ x∈WN w h away keep a,x∈cb.map (·.1)):Cov w h away keep ((GF w h away keep R cb).map toB) where
 on:=λs hs x h1 h2=>by
  obtain⟨t,ht,rfl⟩:=Zai.mp hs;obtain⟨row,c,hcs,rfl⟩:=GJ wl ht;rw[Cd] at h1 h2 ⊢;exact TF (mO hcs).1 (dis c hcs) h1 h2
 all:=λc cl aw=>by
  have hcs:c∈cg w h away:=by
   unfold cg Mth.pick;refine Zai.mpr ⟨Mth.pl w.toNat c,Zav.mpr ⟨Zay.mpr (Mth.Mx cl.inR),aw⟩,Mth.Dr cl.inR⟩
  have no:=dis c hcs;have in1:stS w h keep true c∈ksN w h away keep true:=fX.mpr (Zai.mpr ⟨c,hcs,rfl⟩);have in2:stS w h keep false c∈ksN w h away keep false:=fX.mpr (Zai.mpr ⟨c,hcs,rfl⟩);have done:∀ row,stS w h keep row c∈GF w h away keep R cb->∃ s∈(GF w h away keep R cb).map toB,lnOf s.1 c=s.2.1/\s.2.2.1<=xY s.1 c/\xY s.1 c<=s.2.2.2:=λrow hm=>by
   obtain⟨_,f1,f2,_⟩:=(xf (row:=row) cl no).run;exact⟨_,Zai.mpr ⟨_,hm,rfl⟩,by rw[Cd],by rw[Cd];exact f1,by rw[Cd];exact f2⟩
  obtain⟨i1,i2⟩:=xZ in1;obtain⟨j1,j2⟩:=xZ in2;by_cases hR:JM (ksN w h away keep true) (stS w h keep true c)∈R
  ·refine done false (ZaJ _ ?_);obtain⟨p,hp,e⟩:=Zai.mp (hc _ hR _ (Yg hcs));exact Zai.mpr ⟨p,hp,by rw[e];exact j2⟩
  ·refine done true (Zbm _ (Zai.mpr ⟨_,Zav.mpr ⟨Zay.mpr i1,?_⟩,i2⟩));simpa using hR
theorem Oe{n:Nat}{W:Nat->List Nat}(hn:n=(ksN w h away keep true).length)(P:Pm n W A B)(hB:∀ g a,lk B' g=some a↔lk B g=some a)(hw:Wk n W B' (dF n A) R cb):(GF w h away keep R cb).length=A.length:=by
 subst hn;have nd:=Wk.ndR P hB hw;have hl:=hw.len;have two:∀ (t:Nat->Bool) (l:List Nat),(l.filter t).length+(l.filter λa=>!t a).length=l.length:=λt l=>by
  induction l with
  |nil=>rfl
  |cons a l ih=>cases ht:t a<;>simp[Za8,ht]<;>lia
 have t1:=two (λa=>R.contains a) (List.range (ksN w h away keep true).length);have t2:=two (λa=>(lk A a).isNone) (List.range (ksN w h away keep true).length);have e1:((List.range (ksN w h away keep true).length).filter λa=>R.contains a).length=R.length:=by
  refine Zc4 (bQ (ZbP Za5 ZbL) λx hx=>?_) (bQ nd λx hx=>?_)
  ·simpa using(Zav.mp hx).2
  ·exact Zav.mpr ⟨Zay.mpr (hw.lt x hx),by simpa using hx⟩
 have e2:((List.range (ksN w h away keep true).length).filter λa=>!(lk A a).isNone).length=A.length:=by
  have el:(A.map (·.1)).length=A.length:=Zab _;rw[<-el];refine Zc4 (bQ (ZbP Za5 ZbL) λx hx=>?_) (bQ P.ndA λx hx=>?_)
  ·have:=(Zav.mp hx).2;cases e:lk A x with
   |none=>rw[e] at this;cases this
   |some g=>exact Zai.mpr ⟨_,BP e,rfl⟩
  ·cases e:lk A x with
   |none=>exact absurd hx (lQ.mp e)
   |some g=>exact Zav.mpr ⟨Zay.mpr (P.ok e).2,by rw[e];rfl⟩
 unfold GF;rw[Zas,Zab,Zab];unfold dF at hl;lia
theorem Yh(nd:(cb.map (·.1)).Nodup)(wl:∀ p∈cb,p.1<(ksN w h away keep false).length):(GF w h away keep R cb).Nodup:=by
 unfold GF;rw[Zbi];refine⟨?_,?_,λs hs t ht e=>?_⟩
 ·rw[List.Nodup,Zbj];exact(ZbP Za5 ZbL).imp λhne e=>hne ((GC w h keep true _).inj _ _ e)
 ·rw[List.Nodup,Zbj];rw[List.Nodup,Zbj] at nd;exact nd.imp λhne e=>hne ((GC w h keep false _).inj _ _ e)
 ·obtain⟨a,ha,rfl⟩:=Zai.mp hs;obtain⟨p,hp,rfl⟩:=Zai.mp ht;obtain⟨x,hx,e1⟩:=Zai.mp (fX.mp (pO (Zay.mp (Zav.mp ha).1)));obtain⟨y,hy,e2⟩:=Zai.mp (fX.mp (pO (wl p hp)));rw[<-e1,<-e2] at e;have e:=(Prod.mk.inj e).1;exact absurd e (by decide)
end
theorem TJ{s:Sk}(h:s.2.length=3):bU (skP s) (.int 1)=some (.ok (.int (s.2.getD 0 0))):=by
 obtain⟨t,l⟩:=s
 match l,h with
 |[a,b,c],_=>rfl
theorem JN(n:Nat):∀ (l m:List Int),eqL (eqF n) (l.map PV.int) (m.map PV.int)=some (decide (l=m))
 |[],[]=>rfl
 |[],b::m=>rfl
 |a::l,[]=>rfl
 |a::l,b::m=>by
  rw[Zaq,Zaq,eqL,eqF_int,JN n l m];simp only[ZbJ];by_cases h:a=b<;>simp[h]
theorem Yi(n:Nat)(p q:Sk):eqF (n+1) (skP p) (skP q)=some (decide (p=q)):=by
 show eqL (eqF n) (.str p.1::p.2.map PV.int) (.str q.1::q.2.map PV.int)=_
 rw[eqL,eqF_str,JN];have:(p=q)↔(p.1=q.1/\p.2=q.2):=Prod.ext_iff;by_cases h:p.1=q.1<;>simp[this,h]
theorem Yj{p:Sk}{l:List Sk}:inU (skP p) (.lst (l.map skP))=some (decide (p∈l)):=Gk (λa b=>Yi 30 a b) p l
theorem Wy{w h:Int}(sz:Sz w h)(w8:w<=8)(h8:h<=8){away keep:Nat}(no:∀ i,away.testBit i=true->keep.testBit i=false)(row:Bool):(ksN w h away keep row).length<64:=by
 obtain⟨w0,_,h0,_⟩:=sz;have hk:w.toNat*h.toNat<=8*8:=Zc8 (by omega) (by omega)
 have l1:=Oc ((cg w h away).map (stS w h keep row));rw[Zab] at l1;have l2:(cg w h away).length<=w.toNat*h.toNat:=Mth.nY _ _ _;by_cases lt:(cg w h away).length<64
 ·exact Zbn l1 lt
 have hw:w=8:=by
  by_cases q:w=8
  ·exact q
  ·have:w.toNat*h.toNat<=7*8:=Zc8 (by omega) (by omega)
   omega
 have hh:h=8:=by
  by_cases q:h=8
  ·exact q
  ·have:w.toNat*h.toNat<=8*7:=Zc8 (by omega) (by omega)
   omega
 subst hw hh;have all:∀ i,i<64->away.testBit i=true:=λi hi=>by
  have:(List.range 64).filter (λi=>away.testBit i)=List.range 64:=List.Sublist.eq_of_length_le Za5 (by
   have:(cg 8 8 away).length=((List.range 64).filter λi=>away.testBit i).length:=Zab _;rw[ZaB];omega)
  have m:i∈(List.range 64).filter λi=>away.testBit i:=by rw[this];exact Zay.mpr hi
  exact(Zav.mp m).2
 have inC:∀ c:Int×Int,Cell 8 8 c.1 c.2->c∈cg 8 8 away:=λc cl=>Zai.mpr ⟨Mth.pl 8 c,Zav.mpr ⟨Zay.mpr (Mth.Mx cl.inR),all _ (Mth.Mx cl.inR)⟩,Mth.Dr cl.inR⟩;have cz:∀ x:Int,0<=x->x<=1->Cell 8 8 (bV row 0 x).1 (bV row 0 x).2:=λx x0 x1=>by
  cases row
  ·exact⟨by show(0:Int)<=0;omega,by show(0:Int)<8;omega,x0,by show x<8;omega⟩
  ·exact⟨x0,by show x<8;omega,by show(0:Int)<=0;omega,by show(0:Int)<8;omega⟩
 have same:stS 8 8 keep row (bV row 0 0)=stS 8 8 keep row (bV row 0 1):=Tz (l:=0) (f:=0) (t:=1) (λx x0 x1=>⟨cz x x0 x1,no _ (all _ (Mth.Mx (cz x x0 x1).inR))⟩) (by cases row<;>rfl) (by cases row<;>decide) (by cases row<;>decide) (by cases row<;>rfl) (by cases row<;>decide) (by cases row<;>decide)
 have ne:bV row 0 1≠bV row 0 0:=by cases row<;>decide
 have m0:=inC _ (cz 0 (by decide) (by decide))
 have sub:=sub_len (k:=((cg 8 8 away).erase (bV row 0 0)).map (stS 8 8 keep row)) (Ls ((cg 8 8 away).map (stS 8 8 keep row))) λs hs=>by
  obtain⟨x,hx,rfl⟩:=Zai.mp (fX.mp hs);by_cases e:x=bV row 0 0
  ·subst e;exact Zai.mpr ⟨bV row 0 1,(Zcd ne).mpr (inC _ (cz 1 (by decide) (by decide))),same.symm⟩
  ·exact Zai.mpr ⟨x,(Zcd e).mpr hx,rfl⟩
 rw[Zab,Zcn m0] at sub;have l2:(cg 8 8 away).length<=64:=l2;show(ddp _).length<64
 omega
theorem TQ{w h:Int}(sz:Sz w h)(w8:w<=8)(h8:h<=8){away keep:Nat}(none_:away &&& keep=0) :
  ∃ (S:List Sk) (T:List PV),cR [.tup [.int w,.int h],.int away,.int keep]=some (.ok (.tup [.lst (S.map skP),.lst T]))/\Cov w h away keep (S.map toB)/\S.length<64/\∀ s∈S,∃ row,∃ x∈cg w h away,s=stS w h keep row x:=by
 have bits:∀ i,away.testBit i=true->keep.testBit i=false:=λi hi=>by
  have:=ZaY (λn=>n.testBit i) none_;simp only[Zb6,hi,Bool.true_and,ZcZ] at this;exact this
 have dis:∀ c∈cg w h away,keep.testBit (Mth.pl w.toNat c)=false:=λc hc=>bits _ (mO hc).2;have k1:=GC w h keep true (cg w h away);have k2:=GC w h keep false (cg w h away);have n1:=Wy sz w8 h8 bits true;have n2:=Wy sz w8 h8 bits false;have wl:∀ i g,g∈WN w h away keep i->g<(ksN w h away keep false).length:=λi g hg=>Ye hg;obtain⟨A,B,eM,P,Dd,cD,hd⟩:=Gr (G:=Gof k1 k2) (n:=(ksN w h away keep true).length) (N:=(ksN w h away keep false).length) (W:=WN w h away keep) (by omega) (by omega) wl
 obtain⟨B',R,cb,eS,hB,hw,hc⟩:=BW (G:=Gof k1 k2) (n:=(ksN w h away keep true).length) (N:=(ksN w h away keep false).length) (W:=WN w h away keep) (by omega) (by omega) wl P cD hd
 have wlc:∀ p∈cb,p.1<(ksN w h away keep false).length:=λp hp=>wl _ _ (hw.wish p hp);have lc:cb.length<64:=Zbn (hw.nU wl) n2;have eX:=Tu sz away keep dis;rw[Zo k1 k2] at eX
 let ps:List (Int×Int):=A.map λp=>((gV (ksN w h away keep false) p.2).2.getD 0 0,(gV (ksN w h away keep true) p.1).2.getD 0 0)
 have hps:∀ c∈ps,Cell w h c.1 c.2:=λc hc=>by
  obtain⟨p,hp,rfl⟩:=Zai.mp hc;obtain⟨x,hx,e1,e2⟩:=Tw (P.ok (yK P.ndA (show(p.1,p.2)∈A from hp))).1;rw[<-e1,<-e2];exact(mO hx).1
 let S0:List Sk:=((List.range (ksN w h away keep true).length).filter λa=>!R.contains a).map (gV (ksN w h away keep true))++xX (cb.map λp=>gV (ksN w h away keep false) p.1)
 have pS:S0.Perm (GF w h away keep R cb):=Zcw _ (su _);have lA:A.length<64:=Zbn (jy P.ndA λx hx=>by
  obtain⟨p,hp,rfl⟩:=Zai.mp hx;exact(P.ok (yK P.ndA (show(p.1,p.2)∈A from hp))).2) n1
 have pm:=(su S0).trans pS;refine⟨xX S0,(cg w h (Mth.xK w.toNat ps)).map cellP,?_,?_,by rw[pm.length_eq,Oe rfl P hB hw];exact lA,λs hs=>GJ wlc (pm.mem_iff.mp hs)⟩
 rotate_left
 ·have:=Vy dis wlc hc;have pm:=pm.map toB;exact⟨λs hs=>this.on s (pm.mem_iff.mp hs),λc cl aw=>by obtain⟨s,hs,q⟩:=this.all c cl aw;exact⟨s,pm.mem_iff.mpr hs,q⟩⟩
 refine iG (x:=gJ (startR [.tup [.int w,.int h],.int away,.int keep] 6)) ?_;unfold gJ;rw[show startR [.tup [.int w,.int h],.int away,.int keep] 6=[some (.sh (.tup [.int w,.int h])),some (.sh (.int away)),some (.sh (.int keep)),none,none,none,none,none,none] from rfl];walk_at "rd"
 have eN:cg w h 0=[]:=by
  unfold cg Mth.pick;rw[List.filter_eq_nil_iff.mpr λi _=>by simp]
  rfl
 rw[j7,none_,qT sz 0,show Mth.pick w.toNat (w.toNat*h.toNat) (λi=>(0:Nat).testBit i)=[] from eN];walk_at "rd"
 rw[Zal (by simp)]
 unfold mF;walk_at "rd"
 rw[eX];walk_at "rd"
 rw[eM];walk_at "rd"
 rw[eS];walk_at "rd"
 rw[show wiP (Gof k1 k2) (ksN w h away keep true).length (WN w h away keep)=.dt ((List.range (ksN w h away keep true).length).map λ(i:Nat)=>((Gof k1 k2).aK i,PV.lst ((Gof k1 k2).GL (WN w h away keep i)))) from rfl,BV,sr];have big:∀ {k:Nat},k<=9000->k<=sizeLine:=λh=>ZaA (CV (by omega))
 refine⟨rfl,by unfold Gs.AL;rw[Zab,ZaB];exact big (by omega),?_⟩
 rw[show(Gof k1 k2).AL (List.range (ksN w h away keep true).length)=(List.range (ksN w h away keep true).length).map (Gof k1 k2).av from rfl,fG (Gof k1 k2).av (λa=>!R.contains a) (Gof k1 k2).av (List.range (ksN w h away keep true).length) λa _=>⟨_,rfl,fC ?t1,λ_=>rfl⟩,tv_some]
 case t1=>
  walk_at "rd"
  refine⟨_,Yj,?_⟩;have:gV (ksN w h away keep true) a∈xX (R.map (Gof k1 k2).aS)↔a∈R:=by
   rw[(su _).mem_iff];constructor
   ·intro hm;obtain⟨b,hb,e⟩:=Zai.mp hm;rw[<-k1.inj b a e];exact hb
   ·exact λhm=>Zai.mpr ⟨a,hm,rfl⟩
  show(!decide (gV (ksN w h away keep true) a∈xX (R.map (Gof k1 k2).aS)))=_
  by_cases hm:a∈R
  ·rw[ZaF (this.mpr hm),Zbz.mpr hm]
  ·rw[ZaH (λz=>hm (this.mp z))];have:R.contains a=false:=by simpa using hm
   rw[this]
 have ls:(xX (cb.map λp=>(Gof k1 k2).gS p.1)).length=cb.length:=by rw[(su _).length_eq,Zab]
 have lf:((List.range (ksN w h away keep true).length).filter λa=>!R.contains a).length<64:=Zbn (ZaO _ _) (by rw[ZaB];exact n1)
 refine⟨by rw[Zab,Zab,ls];exact big (by omega),rfl,?_⟩
 rw[show(Gof k1 k2).GA A=.dt (kvQ (Gof k1 k2).aK (Gof k1 k2).gv A) from rfl,Er,w5];refine⟨by rw[Zab];exact big (by omega),?_⟩
 rw[fG (λp:Nat×Nat=>PV.tup [(Gof k1 k2).av p.1,(Gof k1 k2).gv p.2]) (λ_=>true) (λp=>cellP ((gV (ksN w h away keep false) p.2).2.getD 0 0,(gV (ksN w h away keep true) p.1).2.getD 0 0)) A λp _=>⟨_,rfl,rfl,λ_=>fC ?t2⟩,tv_some]
 case t2=>
  walk_at "rd"
  rw[show(Gof k1 k2).gv p.2=skP (gV (ksN w h away keep false) p.2) from rfl,TJ (k2.l3 _),tv_some,show(Gof k1 k2).av p.1=skP (gV (ksN w h away keep true) p.1) from rfl,TJ (k1.l3 _),tv_some];exact⟨by decide,rfl⟩
 rw[Zbw.mpr λ_ _=>rfl,show(A.map λp=>cellP ((gV (ksN w h away keep false) p.2).2.getD 0 0,(gV (ksN w h away keep true) p.1).2.getD 0 0))=ps.map cellP by simp only[ps,ZaS];rfl,En sz ps hps]
 walk_at "rd"
 have nS:S0.Nodup:=pS.nodup_iff.mpr (Yh hw.nd wlc);have mS:∀ s∈S0,s.2.length=3:=λs hs=>by obtain⟨row,x,_,rfl⟩:=GJ wlc (pS.mem_iff.mp hs);rfl
 rw[show List.map (Gof k1 k2).av (List.filter (λa=>!R.contains a) (List.range (ksN w h away keep true).length))++List.map skP (xX (List.map (λp=>(Gof k1 k2).gS p.fst) cb))=S0.map skP by simp only[S0,ZaW,ZaS];rfl,Ob nS mS (by rw[pS.length_eq,Oe rfl P hB hw];exact lA),tv_some,qT sz]
 walk_at "rd"
 first
  |exact⟨by decide,rfl⟩
  |decide
theorem yc(ns:List Int)(k:Nat)(hk:k<=3000):∃ n:Int,dD [.lst (ns.map .int),.int k]=some (.ok (.int n)):=by
 suffices h:∃ p,dD [.lst (ns.map .int),.int k]=some (.ok p)/\∃ n,p=.int n by
  obtain⟨p,e,n,rfl⟩:=h;exact⟨n,e⟩
 refine Bp ?_;unfold qP;walk_at "rd"
 rw[Zab];refine xH (λh=>?_) (λh=>?_)
 ·unfold tU;walk_at "rd"
  exact⟨_,Ek (by lia) h,_,rfl⟩
 ·unfold tW;have kk:(k:Int)*k<=3000*3000:=ZcR (by lia) (by lia) (by lia) (by decide)
  have kk0:0<=(k:Int)*k:=Zc7 (by lia) (by lia)
  walk_at "rd"
  rw[Zab];refine⟨.inl ⟨by lia,by lia⟩,xH (λh0=>?_) (λh0=>?_)⟩
  ·unfold tV;walk_at "rd"
   rw[Zab];refine⟨.inl ⟨by lia,by lia⟩,by lia,_,Ek (Za9 _ (by lia)) (ZaU _ (by lia)),?_⟩
   walk_at "rd"
   generalize hq:ns.getD ((k:Int)*7%ns.length).toNat 0%2147483629=q
   have q0:0<=q:=by rw[<-hq];exact Za9 _ (by decide)
   have q1:q<2147483629:=by rw[<-hq];exact ZaU _ (by decide)
   unfold nT;walk_at "rd"
   exact⟨by decide,.inl ⟨by lia,by lia⟩,by decide,_,rfl⟩
  ·unfold nT;walk_at "rd"
   exact⟨.inl ⟨by lia,by lia⟩,by decide,_,rfl⟩
theorem iJ(c:Int)(k:Nat)(hk:k<=3000):∃ n:Int,bI [.int c,.int k]=some (.ok (.int n))/\0<=n/\n<2147483648:=by
 suffices h:∃ p,bI [.int c,.int k]=some (.ok p)/\∃ n,p=.int n/\0<=n/\n<2147483648 by
  obtain⟨p,e,n,rfl,h⟩:=h;exact⟨n,e,h⟩
 refine Bp ?_;unfold pM;walk_at "rd"
 refine⟨by decide,by decide,by decide,xH (λh=>?_) (λh=>?_)⟩
 ·unfold qQ;walk_at "rd"
  have c0:0<=c/2^(31*(k:Int)).toNat:=Int.ediv_nonneg (Int.le_trans (by decide) h) (Int.le_of_lt (Int.pow_pos (by decide)))
  rw[bitAnd_pp c0 (by decide)]
  refine⟨.inl ⟨by decide,by decide⟩,by omega,Za1 _,?_⟩
  have:=@Nat.and_le_right (c/2^(31*(k:Int)).toNat).toNat (2147483647:Int).toNat;have e:(2147483647:Int).toNat=2147483647:=rfl;rw[e] at this ⊢;omega
 ·unfold qR;have k1:7919*(k:Int)*k<=23757000*3000:=ZcR (by omega) (by omega) (by omega) (by decide)
  have k0:0<=7919*(k:Int)*k:=Zc7 (by omega) (by omega)
  have m0:0<=c%2147483629:=Za9 _ (by decide)
  have m1:c%2147483629<2147483629:=ZaU _ (by decide)
  walk_at "rd"
  generalize hq:(c%2147483629+7919*(k:Int)*k+k+13)*48271%2147483587=q
  have q0:0<=q:=by rw[<-hq];exact Za9 _ (by decide)
  have q1:q<2147483587:=by rw[<-hq];exact ZaU _ (by decide)
  generalize hz:q*q%2147483629=z
  have z0:0<=z:=by rw[<-hz];exact Za9 _ (by decide)
  have z1:z<2147483629:=by rw[<-hz];exact ZaU _ (by decide)
  refine⟨by decide,.inl ⟨by decide,by decide⟩,.inl ⟨by omega,by omega⟩,.inl ⟨by omega,by omega⟩,by decide,.inl ⟨by omega,by omega⟩,by decide,.inl ⟨by omega,by omega⟩,by decide,Za9 _ (by decide),?_⟩
  have:=ZaU ((z+(k:Int))*69621) (b:=2147483563) (by decide)
  omega
theorem TV{w h:Int}(sz:Sz w h)(c:Int)(k:Nat)(hk:k<=90):∃ n:Nat,mG [.tup [.int w,.int h],.int c,.int k]=some (.ok (.int n))/\n<2^(w.toNat*h.toNat):=by
 suffices hh:∃ p,mG [.tup [.int w,.int h],.int c,.int k]=some (.ok p)/\∃ n:Nat,p=.int n/\n<2^(w.toNat*h.toNat) by
  obtain⟨p,e,n,rfl,q⟩:=hh;exact⟨n,e,q⟩
 have hm:=sz.mul;have hN:=sz.nat;have w0:=sz.w0;have w1:=sz.w1;have h0:=sz.h0;have h1:=sz.h1;refine Bp (x:=pN (startR [.tup [.int w,.int h],.int c,.int k] 4)) ?_;unfold pN;rw[show startR [.tup [.int w,.int h],.int c,.int k] 4=[some (.sh (.tup [.int w,.int h])),some (.sh (.int c)),some (.sh (.int k)),none,none,none,none] from rfl];walk_at "rd"
 refine⟨.inl ⟨by lia,by lia⟩,by decide,by decide,by lia,by lia,?_⟩
 have np:((1:Int)*2^(w*h).toNat)=((2^(w.toNat*h.toNat):Nat):Int):=by rw[hN.1];simp
 refine dJ (I:=λi Z=>∃ (n:Int) (v5:Option Sl),Z=[some (.sh (.tup [.int w,.int h])),some (.sh (.int c)),some (.sh (.int k)),some (.sh (.int (w*h))),some (.sh (.int n)),v5,none]/\0<=n) ⟨0,none,rfl,by decide⟩ ?_ ?_
 ·rintro i x Z hx ⟨n,v5,rfl,n0⟩;obtain⟨hi,rfl⟩:=Gm hx;have hi2:i<=20:=by lia
  obtain⟨q,eq,q0,q1⟩:=iJ c (30*k+i) (by lia)
  unfold wO;walk_at "rd"
  rw[show(30*(k:Int)+(0+(i:Int)))=((30*k+i:Nat):Int) by push_cast;lia,eq]
  walk_at "rd"
  exact⟨.inr ⟨by decide,by decide⟩,.inl ⟨by decide,by decide⟩,_,_,rfl,by lia⟩
 ·rintro Z ⟨n,v5,rfl,n0⟩;obtain⟨q,eq,q0,q1⟩:=iJ c (30*k+29) (by lia)
  walk_at "rd"
  unfold wW;walk_at "rd"
  have pp:(0:Int)<1*2^(w*h).toNat:=by rw[np];exact Int.natCast_pos.mpr (ZcI _)
  refine⟨by lia,by lia,by decide,pp,.inl ⟨by decide,by decide⟩,?_⟩
  rw[show(30*(k:Int)+29)=((30*k+29:Nat):Int) by push_cast;lia,eq]
  walk_at "rd"
  have m0:=Za9 n (Int.ne_of_gt pp);have m1:=ZaU n pp;refine⟨by decide,xH (λ_=>?_) (λ_=>?_)⟩
  ·unfold wQ;walk_at "rd"
   refine⟨by lia,by lia,by decide,2^(w.toNat*h.toNat)-1,?_,by have:=ZcI (w.toNat*h.toNat);lia⟩
   rw[np];have:=ZcI (w.toNat*h.toNat);congr 1
   lia
  ·unfold wV;walk_at "rd"
   refine xH (λ_=>?_) (λ_=>?_)
   ·unfold wR;walk_at "rd"
    exact⟨0,rfl,ZcI _⟩
   ·unfold wU;walk_at "rd"
    refine⟨(n%(1*2^(w*h).toNat)).toNat,by rw[Zbv m0],?_⟩
    rw[np] at m1 m0 ⊢;lia
theorem Cov.mono{w h:Int}{away keep away' keep':Nat}{S:List StB}(c:Cov w h away keep S)(ha:∀ i,away'.testBit i=true->away.testBit i=true)(hk:∀ i,keep'.testBit i=true->keep.testBit i=true):Cov w h away' keep' S where
 on:=λs hs x h1 h2=>by
  obtain⟨q1,q2⟩:=c.on s hs x h1 h2;refine⟨q1,?_⟩;cases e:keep'.testBit (Mth.pl w.toNat (bV s.1 s.2.1 x)) with
  |false=>rfl
  |true=>rw[hk _ e] at q2;cases q2
 all:=λx cl aw=>c.all x cl (ha _ aw)
theorem Cov.two{w h:Int}{away a1 a2 keep:Nat}{S T:List StB}(c:Cov w h a1 keep S)(d:Cov w h a2 keep T)(h':∀ i,away.testBit i=true->a1.testBit i=true\/a2.testBit i=true):Cov w h away keep (S++T) where
 on:=λs hs=>(ZaK.mp hs).elim (c.on s) (d.on s)
 all:=λx cl aw=>by
  rcases h' _ aw with q|q
  ·obtain⟨s,hs,z⟩:=c.all x cl q;exact⟨s,Zbm _ hs,z⟩
  ·obtain⟨s,hs,z⟩:=d.all x cl q;exact⟨s,ZaJ _ hs,z⟩
theorem Lx(a b:Nat):Builtin.bitOr (a:Int) (b:Int)=((a ||| b:Nat):Int):=Em a b
theorem Ce(a:Nat):∀ b:Nat,a+b=(a ^^^ b)+2*(a &&& b):=by
 induction a using Nat.strongRecOn with
 |_ a ih=>
  intro b;by_cases h:a=0
  ·subst h;simp
  ·have this:=ih (a/2) (by omega) (b/2)
   have e1:(a ^^^ b)/2=(a/2) ^^^ (b/2):=Nat.xor_div_two;have e2:(a &&& b)/2=(a/2) &&& (b/2):=Nat.and_div_two;have t1:=Nat.testBit_xor a b 0;have t2:=Zb6 a b 0;rw[<-e1,<-e2] at this;simp only[Nat.testBit_zero] at t1 t2;generalize a ^^^ b=x at *
   generalize a &&& b=y at *
   rcases ZcL a with p|p<;>rcases ZcL b with q|q<;>rw[p,q] at t1 t2<;>simp at t1 t2<;>omega
def yS(n m:Nat):Nat:=n ^^^ (n &&& m)
theorem Og(n m p:Nat):(yS n m).testBit p=(n.testBit p&&!m.testBit p):=by
 unfold yS;rw[Nat.testBit_xor,Zb6];cases n.testBit p<;>cases m.testBit p<;>rfl
theorem TX(n m:Nat):Builtin.bitAnd (n:Int) (Builtin.bitNot (m:Int))=((yS n m:Nat):Int):=by
 have hn:¬(0:Int)<=Builtin.bitNot (m:Int):=by unfold Builtin.bitNot;omega
 have e:Builtin.bitAnd (n:Int) (Builtin.bitNot (m:Int))=(n:Int)-((n &&& m:Nat):Int):=by
  unfold Builtin.bitAnd;rw[ZaF (Za1 n),ZaH hn,bitNot_bitNot,ZaD,ZaD]
 rw[e];have:=Ce n (n &&& m);rw[<-ZcW,Nat.and_self] at this;unfold yS;omega
def CW(w h:Int):Nat:=2^(w.toNat*h.toNat)-1
theorem Qf{w h:Int}(sz:Sz w h):wB [.tup [.int w,.int h]]=some (.ok (.int (CW w h:Nat))):=by
 have hm:=sz.mul;refine iG (x:=wA (startR [.tup [.int w,.int h]] 0)) ?_;unfold wA;walk_at "rd"
 refine⟨.inl ⟨by have:=sz.w0;have:=sz.w1;omega,by have:=sz.w0;have:=sz.w1;omega⟩,by omega,by omega,by decide,?_⟩
 unfold CW;rw[sz.nat.1];have:0<2^(w*h).toNat:=Zc9 (by decide)
 rw[Int.one_mul,show((2:Int)^(w*h).toNat)=((2^(w*h).toNat:Nat):Int) by norm_cast]
 congr 1
 omega
inductive Dd where
 |cut (b:Int) (row:Bool) (l f t:Int)
 |prt (b i:Int)
def Dd.p:Dd->PV
 |.cut b row l f t=>.tup [.str (Str.ofString "cut"),.int b,qe row l f t]
 |.prt b i=>.tup [.str (Str.ofString "print"),.int b,.int i]
def Dd.ok(w h:Int):Dd->Prop
 |.cut b row l f t=>0<=b/\On w h row l f t
 |.prt b i=>0<=b/\0<=i
def Dd.block:Dd->Int
 |.cut b ..=>b
 |.prt b _=>b
def Zq(w:Int)(W:Int->Nat):Dd->Int->Nat
 |.cut b row l f t,c=>if c=b then yS (W b) (Mth.xK w.toNat (dz row l f t)) else W c
 |.prt ..,c=>W c
def wd(w:Int):(Int->Nat)->List Dd->Int->Nat
 |W,[]=>W
 |W,d::l=>wd w (Zq w W d) l
def pr(w:Int):(Int->Nat)->List Dd->List (Int×Nat)
 |_,[]=>[]
 |W,.cut b row l f t::r=>pr w (Zq w W (.cut b row l f t)) r
 |W,.prt b i::r=>(i,W b)::pr w W r
def ZS(x:Int×Nat):PV:=.tup [.int x.1,.int (x.2:Nat)]
def RI(w h:Int)(L:List PV)(l:List Dd)(i:Nat)(Z:Rho):Prop:=
 ∃ (kv:List (Key×PV)) (v5 v6 v7:Option Sl),Z=[some (.sh (.tup [.int w,.int h])),some (.sh (.lst L)),some (.sh .non),some (.ow (.dk kv)),some (.ow (.lst ((pr w (λ_=>CW w h) (l.take i)).map ZS))),v5,v6,v7]/\kv.length<=i/\∀ b:Int,(cI kv (.inl b)).getD (.int (CW w h:Nat))=.int (wd w (λ_=>CW w h) (l.take i) b:Nat)
theorem RI.zero{w h:Int}{L:List PV}{l:List Dd}:RI w h L l 0 [some (.sh (.tup [.int w,.int h])),some (.sh (.lst L)),some (.sh .non),some (.ow (.dk [])),some (.ow (.lst [])),none,none,none]:=⟨[],none,none,none,rfl,Zan _,λb=>rfl⟩
namespace II
noncomputable abbrev QD:PV:=.dk []
noncomputable abbrev Vz:PV->Option (Res PV):=vX
def iK(a:Nat):Key:=.inl (a:Int)
def iV(a:Nat):PV:=.int (a:Int)
theorem yd(a b:Nat)(e:iK a=iK b):a=b:=by have:=Zb3 e;omega
theorem Wz{a b:Nat}(h:a≠b):(Sum.inl (a:Int):Key)≠.inl (b:Int):=λe=>h (by have:=Zb3 e;omega)
structure Gv where
 gv:Nat->PV
 GD:List (Nat×Nat)->PV
 srtd:List (Nat×Nat)->List PV
 still:∀ g,(gv g).still=true
 nn:∀ g,(gv g).qz=false
 nil:GD []=QD
 isD:∀ l,(GD l).isD=true
 sh:∀ l,PV.lM (GD l)=true
 find:∀ l g,dY (GD l) (gv g)=some ((lk l g).map iV)
 put:∀ l g a,(l.map (·.1)).Nodup->l.length<sizeLine->yR (GD l) (gv g) (iV a)=some (GD (ptN l g a))
 srt:∀ l (Q:PV->Prop),l.length<64->Q (.lst (srtd l))->Tv (Vz (GD l)) Q
def Gv.GA(G:Gv)(l:List (Nat×Nat)):PV:=.dk (kvQ iK G.gv l)
def Gv.GL(G:Gv)(l:List Nat):List PV:=l.map G.gv
theorem Gv.N7(G:Gv)(l:List (Nat×Nat))(a:Nat):dY (G.GA l) (.int (a:Int))=some ((lk l a).map G.gv):=by
 unfold Gv.GA;rw[dF_int];exact ZaY some (mH yd a l)
theorem Gv.X7(G:Gv){l:List (Nat×Nat)}{a g:Nat}(nd:(l.map (·.1)).Nodup)(h:l.length<sizeLine):yR (G.GA l) (.int (a:Int)) (G.gv g)=some (G.GA (ptN l a g)):=by
 unfold Gv.GA;rw[xT,Zam (by rw[zr];exact h)];exact ZaY (λz=>some (PV.dk z)) (qU yd a g nd)
def aZ(l:List Nat):List PV:=l.map λ(n:Nat)=>.int (n:Int)
theorem pP(l:List Nat):PV.lM (.lst (aZ l))=true:=ZaT.mpr λp hp=>by
 obtain⟨n,_,rfl⟩:=Zai.mp hp;rfl
def wiP(G:Gv)(n:Nat)(W:Nat->List Nat):PV:=.dk ((List.range n).map λ(i:Nat)=>((.inl (i:Int):Key),PV.lst (G.GL (W i))))
theorem mJ{f:Nat->PV}{k:Nat}:∀ {l:List Nat},k∈l->cI (l.map λ(i:Nat)=>((.inl (i:Int):Key),f i)) (.inl (k:Int))=some (f k)
 |i::l,h=>by
  rw[Zaq];unfold cI;by_cases e:i=k
  ·subst e;rw[Zam rfl]
  ·rw[Zal (Wz e)];exact mJ ((ZaC.mp h).resolve_left (Zbl e))
theorem Ti{G:Gv}{n k:Nat}{W:Nat->List Nat}(h:k<n):dY (wiP G n W) (.int (k:Int))=some (some (.lst (G.GL (W k)))):=by
 unfold wiP;rw[dF_int,mJ (f:=λi=>.lst (G.GL (W i))) (Zay.mpr h)]
def gvP(G:Gv):Option Nat->PV
 |none=>.non
 |some g=>G.gv g
theorem ye{l:List Nat}{i:Nat}{x:PV}(h:(aZ l)[i]?=some x):∃ g,l[i]?=some g/\x=.int (g:Int):=by
 unfold aZ at h;rw[Zac] at h;cases e:l[i]? with
 |none=>rw[e] at h;cases h
 |some g=>rw[e] at h;cases h;exact⟨g,rfl,rfl⟩
theorem Lr{G:Gv}{l:List Nat}{i:Nat}{x:PV}(h:(G.GL l)[i]?=some x):∃ g,l[i]?=some g/\x=G.gv g:=by
 unfold Gv.GL at h;rw[Zac] at h;cases e:l[i]? with
 |none=>rw[e] at h;cases h
 |some g=>rw[e] at h;cases h;exact⟨g,rfl,rfl⟩
theorem yf(l:List Nat)(b:Nat):aZ l++[.int (b:Int)]=aZ (l++[b]):=by simp[aZ]
theorem qX{l:List Nat}{i a:Nat}(h:l[i]?=some a):atI (aZ l) (i:Int)=some (.int (a:Int)):=by
 exact mU (by unfold aZ;rw[Zac,h];rfl)
theorem oV{G:Gv}{n N:Nat}{W:Nat->List Nat}{B:List (Nat×Nat)}{S:List Nat}(hN:N<=120)(hS:S.length<=60)(sl:∀ a∈S,a<n)(wl:∀ i g,g∈W i->g<N)(bl:∀ g b,lk B g=some b->b<n) :
  ∃ g R cb,iI [wiP G n W,G.GD B,.lst (aZ S)]=some (.ok (.tup [gvP G g,.lst (aZ R),G.GD cb]))/\Vu n W B S g R cb:=by
 have big:∀ {k:Nat},k<=900->k<sizeLine:=λh=>bY (by lia)
 suffices h:∃ p,iI [wiP G n W,G.GD B,.lst (aZ S)]=some (.ok p)/\∃ g R cb,p=.tup [gvP G g,.lst (aZ R),G.GD cb]/\Vu n W B S g R cb by
  obtain⟨p,e,g,R,cb,rfl,h⟩:=h;exact⟨g,R,cb,e,h⟩
 refine zp ?_;unfold uH;rw[show startR [wiP G n W,G.GD B,.lst (aZ S)] 5=[some (.sh (wiP G n W)),some (.sh (G.GD B)),some (.sh (.lst (aZ S))),none,none,none,none,none] from rfl];walk_at "rd"
 refine my (n:=199) (I:=λk Z=>∃ (R:List Nat) (cb:List (Nat×Nat)) (pl:Nat) (v6 v7:Option Sl),Z=[some (.sh (wiP G n W)),some (.sh (G.GD B)),some (.sh (.lst (aZ S))),some (.ow (.lst (aZ R))),some (.ow (G.GD cb)),some (.sh (.int (pl:Int))),v6,v7]/\k+pl=199/\pl<=R.length/\Wk n W B S R cb/\∀ i a,i<pl->R[i]?=some a->∀ x∈W a,x∈cb.map (·.1)) ⟨S,[],0,none,none,by rw[G.nil];rfl,rfl,Za4 _,Wk.start sl,λi a h=>absurd h (Zby _)⟩ ?_
 rintro k Z ⟨R,cb,pl,v6,v7,rfl,hk,hpl,hw,hc⟩;have hR:=hw.len;have hcb:=hw.nU wl;walk_at "rd"
 by_cases hlt:(pl:Int)<((aZ R).length:Int)
 case neg=>
  rw[Zal hlt];have hpl2:pl=R.length:=by simp only[aZ,Zab] at hlt;lia
  unfold wN;walk_at "rd"
  refine⟨rfl,pP R,G.sh cb,ZaA (big (by lia)),none,R,cb,rfl,hw,λa ha x hx=>?_⟩
  obtain⟨i,hi⟩:=ZaZ ha;exact hc i a (by rw[hpl2];exact(Zad.mp hi).1) hi x hx
 case pos=>
  rw[Zam hlt];have hp2:pl<R.length:=by simp only[aZ,Zab] at hlt;lia
  obtain⟨a,ha⟩:∃ a,R[pl]?=some a:=⟨_,Zae hp2⟩;have al:a<n:=hw.lt a (Zak ha);refine⟨by lia,?_⟩
  unfold wM;walk_at "rd"
  refine⟨.int (a:Int),qX ha,rfl,_,Ti al,?_⟩;rw[tv_asSeqL];refine dJ (I:=λj Z=>∃ (R:List Nat) (cb:List (Nat×Nat)) (v7:Option Sl),Z=[some (.sh (wiP G n W)),some (.sh (G.GD B)),some (.sh (.lst (aZ S))),some (.ow (.lst (aZ R))),some (.ow (G.GD cb)),some (.sh (.int (pl:Int))),some (.sh (.int (a:Int))),v7]/\R[pl]?=some a/\Wk n W B S R cb/\(∀ i a,i<pl->R[i]?=some a->∀ x∈W a,x∈cb.map (·.1))/\∀ i x,i<j->(W a)[i]?=some x->x∈cb.map (·.1)) ⟨R,cb,v7,rfl,ha,hw,hc,λi x h=>absurd h (Zby _)⟩ ?_ ?_
  case refine_2=>
   rintro Z ⟨R,cb,v7,rfl,ha,hw,hc,hj⟩;have hR:=hw.len;have hcb:=hw.nU wl;have hp3:pl<R.length:=(Zad.mp ha).1;walk_at "rd"
   unfold wL;walk_at "rd"
   refine⟨R,cb,pl+1,some (.sh (.int a)),v7,by simp,by lia,hp3,hw,λi b hi hb x hx=>?_⟩
   by_cases e:i=pl
   ·subst e;rw[ha] at hb;cases hb;obtain⟨i,hi⟩:=ZaZ hx;exact hj i x (by simpa[Gv.GL] using(Zad.mp hi).1) hi
   ·exact hc i b (by lia) hb x hx
  rintro j y Z ey ⟨R,cb,v7,rfl,ha,hw,hc,hj⟩;obtain⟨g,eg,rfl⟩:=Lr ey;have hR:=hw.len;have hcb:=hw.nU wl;have hg:g∈W a:=Zak eg;unfold wK;walk_at "rd"
  refine⟨G.isD _,_,G.find _ _,?_⟩;cases hk2:lk cb g with
  |some z=>
   rw[Zbu,ZbO,Zam rfl];refine⟨R,cb,_,rfl,ha,hw,hc,λi x hi hx=>?_⟩;by_cases e:i=j
   ·subst e;rw[eg] at hx;cases hx;exact Zai.mpr ⟨_,BP hk2,rfl⟩
   ·exact hj i x (by lia) hx
  |none=>
   rw[Zcr,Zb2,Zal (by decide)]
   unfold wJ;walk_at "rd"
   refine⟨_,G.put _ _ _ hw.nd (big (by lia)),G.isD _,_,G.find _ _,?_⟩
   rw[Lq _ _ _ hk2];cases hb:lk B g with
   |none=>
    rw[Zcr,Zb2,Zam (by decide)]
    unfold wF;walk_at "rd"
    exact⟨G.still g,pP R,G.sh _,ZaA (big (by lia)),some g,R,_,rfl,cb,a,pl,rfl,hw,ha,hg,hk2,hb⟩
   |some b=>
    rw[Zbu,ZbO,Zal (by decide)]
    unfold wI;walk_at "rd"
    have hp3:pl<R.length:=(Zad.mp ha).1;have sub:∀ x,x∈cb.map (·.1)->x∈(cb++[(g,a)]).map (·.1):=λx hx=>by rw[ZaW];exact Zbm _ hx
    refine⟨G.isD _,.int (b:Int),by rw[G.find,hb];rfl,by simp only[aZ,Zab];exact big (by lia),R++[b],cb++[(g,a)],_,by rw[yf],by rw[Zag hp3];exact ha,hw.more ha hg hk2 hb (bl g b hb),λi c hi hc' x hx=>?_,λi x hi hx=>?_⟩
    ·rw[Zag (by lia)] at hc'
     exact sub x (hc i c hi hc' x hx)
    ·by_cases e:i=j
     ·subst e;rw[eg] at hx;cases hx;simp
     ·exact sub x (hj i x (by lia) hx)
theorem xW{G:Gv}{A B cb:List (Nat×Nat)}:d8 [G.GA A,G.GD B,G.GD cb,.non]=some (.ok (.tup [G.GA A,G.GD B])):=by
 suffices h:∃ p,d8 [G.GA A,G.GD B,G.GD cb,.non]=some (.ok p)/\p=.tup [G.GA A,G.GD B] by
  obtain⟨p,e,rfl⟩:=h;exact e
 show ∃ p,uy (ie (dI [G.GA A,G.GD B,G.GD cb,.non] 3))=some (.ok p)/\p=.tup [G.GA A,G.GD B]
 refine rR ?_;unfold ie;rw[show dI [G.GA A,G.GD B,G.GD cb,.non] 3=[some (.ow (G.GA A)),some (.ow (G.GD B)),some (.sh (G.GD cb)),some (.sh .non),none,none,none] from rfl];walk_at "rd"
 refine my (n:=199) (I:=λ_ Z=>Z=[some (.ow (G.GA A)),some (.ow (G.GD B)),some (.sh (G.GD cb)),some (.sh .non),some (.sh .non),none,none]) rfl ?_;rintro k Z rfl;walk_at "rd"
 rw[Zal (show ¬PV.non.qz=false by decide)]
 exact⟨_,rfl,rfl⟩
theorem Gq{G:Gv}{n N:Nat}{W:Nat->List Nat}{A0 B0 cb:List (Nat×Nat)}{s g a:Nat}{Dd:Nat->Prop}(hn:n<=60)(hN:N<=120)(wl:∀ i g,g∈W i->g<N)(P:Pm n W A0 B0)(b:Bk n W B0 s (cb++[(g,a)]))(c:dB W B0 Dd)(hs:lk A0 s=none)(hg:lk B0 g=none) :
  ∃ A B,d8 [G.GA A0,G.GD B0,G.GD (cb++[(g,a)]),G.gv g]=some (.ok (.tup [G.GA A,G.GD B]))/\Pm n W A B/\lk A s≠none/\(∀ b,lk A0 b≠none->lk A b≠none)/\(∀ b,lk A b≠none->b=s\/lk A0 b≠none)/\dB W B Dd:=by
 have big:∀ {k:Nat},k<=900->k<sizeLine:=λh=>bY (by lia)
 suffices h:∃ p,d8 [G.GA A0,G.GD B0,G.GD (cb++[(g,a)]),G.gv g]=some (.ok p)/\∃ A B,p=.tup [G.GA A,G.GD B]/\Pm n W A B/\lk A s≠none/\(∀ b,lk A0 b≠none->lk A b≠none)/\(∀ b,lk A b≠none->b=s\/lk A0 b≠none)/\dB W B Dd by
  obtain⟨p,e,A,B,rfl,h⟩:=h;exact⟨A,B,e,h⟩
 generalize hcb:cb++[(g,a)]=cbx at b ⊢
 have e0:cbx[cb.length]?=some (g,a):=by rw[<-hcb];simp
 have hlen:cbx.length<=N:=jy b.nd λx hx=>by
  obtain⟨p,hp,rfl⟩:=Zai.mp hx;exact wl _ _ (b.wish p hp)
 have kl:∀ {l:List (Nat×Nat)}{k:Nat},k∈l.map (·.1)->∃ v,lk l k=some v:=λ{l k} h=>by
  cases e:lk l k with
  |none=>exact absurd h (lQ.mp e)
  |some v=>exact⟨v,rfl⟩
 have j0:Jp n N W A0 B0 s cbx Dd cb.length g A0 B0:=by
  refine⟨P.ndA,P.ndB,λx hx=>?_,λx hx=>?_,λi p b' h1 h2 h3=>h3,hs,λa' g' _=>P.iff a' g',λa' z=>?_,P.ok,λd _ z=>?_,λg' d _ z=>z,λb' z=>z,λb' z=>z⟩
  ·obtain⟨v,hv⟩:=kl hx;exact(P.ok hv).2
  ·obtain⟨v,hv⟩:=kl hx;exact wl _ _ (P.ok ((P.iff _ _).mpr hv)).1
  ·rw[(P.iff _ _).mp z] at hg;cases hg
  ·rw[hg] at z;cases z
 refine rR ?_;unfold ie;rw[show dI [G.GA A0,G.GD B0,G.GD cbx,G.gv g] 3=[some (.ow (G.GA A0)),some (.ow (G.GD B0)),some (.sh (G.GD cbx)),some (.sh (G.gv g)),none,none,none] from rfl];walk_at "rd"
 refine my (n:=199) (I:=λm Z=>∃ (A B:List (Nat×Nat)) (y:Option Nat) (v5 v6:Option Sl),Z=[some (.ow (G.GA A)),some (.ow (G.GD B)),some (.sh (G.GD cbx)),some (.sh (G.gv g)),some (.sh (gvP G y)),v5,v6] /\
  match y with
  |none=>Pm n W A B/\lk A s≠none/\(∀ b,lk A0 b≠none->lk A b≠none)/\(∀ b,lk A b≠none->b=s\/lk A0 b≠none)/\dB W B Dd
  |some x=>∃ k a,cbx[k]?=some (x,a)/\k<m/\Jp n N W A0 B0 s cbx Dd k x A B) ⟨A0,B0,some g,none,none,rfl,cb.length,a,e0,by have:=(Zad.mp e0).1;lia,j0⟩ ?_
 rintro m Z ⟨A,B,y,v5,v6,rfl,hy⟩;cases y with
 |none=>
  rw[show gvP G none=.non from rfl];walk_at "rd"
  rw[Zal (show ¬PV.non.qz=false by decide)]
  exact⟨_,rfl,A,B,rfl,hy⟩
 |some x=>
  obtain⟨k,a',ek,km,j⟩:=hy;rw[show gvP G (some x)=G.gv x from rfl];walk_at "rd"
  rw[Zam (G.nn x)];refine⟨by lia,?_⟩
  unfold pY;have lc:lk cbx x=some a':=yK b.nd (Zak ek);have lA:=jy j.ndA j.kA;have lB:=jy j.ndB j.kB;walk_at "rd"
  refine⟨G.isD _,.int (a':Int),by rw[G.find,lc];rfl,rfl,_,G.N7 _ _,_,G.X7 j.ndA (big (by lia)),_,G.put _ _ _ j.ndB (big (by lia)),ptN A a' x,ptN B x a',lk A a',some (.sh (.int (a':Int))),some (.sh ((Option.map G.gv (lk A a')).getD PV.non)),?_,?_⟩
  ·cases lk A a'<;>rfl
  ·cases hl:lk A a' with
   |none=>exact j.last P b c ek hl
   |some y=>
    obtain⟨k2,a2,h1,h2,h3⟩:=j.step P wl b c ek hl;exact⟨k2,a2,h2,by lia,h3⟩
theorem sr(G:Gv)(n:Nat)(W:Nat->List Nat):Aq ((List.range n).map λ(i:Nat)=>((.inl (i:Int):Key),PV.lst (G.GL (W i))))=aZ (List.range n):=by
 unfold Aq aZ;rw[ZaS];rfl
theorem Gr{G:Gv}{n N:Nat}{W:Nat->List Nat}(hn:n<=60)(hN:N<=120)(wl:∀ i g,g∈W i->g<N) :
  ∃ A B,gw [wiP G n W]=some (.ok (G.GA A))/\Pm n W A B/\∃ Dd,dB W B Dd/\∀ a,a<n->lk A a=none->Dd a:=by
 have big:∀ {k:Nat},k<=900->k<sizeLine:=λh=>bY (by omega)
 suffices h:∃ p,gw [wiP G n W]=some (.ok p)/\∃ A B,p=G.GA A/\Pm n W A B/\∃ Dd,dB W B Dd/\∀ a,a<n->lk A a=none->Dd a by
  obtain⟨p,e,A,B,rfl,h⟩:=h;exact⟨A,B,e,h⟩
 refine wz ?_;unfold mD;rw[show startR [wiP G n W] 4=[some (.sh (wiP G n W)),none,none,none,none] from rfl];walk_at "rd"
 refine⟨rfl,?_⟩;rw[show wiP G n W=.dk ((List.range n).map λ(i:Nat)=>((.inl (i:Int):Key),PV.lst (G.GL (W i)))) from rfl,tv_dkeys,sr,<-show wiP G n W=.dk ((List.range n).map λ(i:Nat)=>((.inl (i:Int):Key),PV.lst (G.GL (W i)))) from rfl];refine dJ (I:=λj Z=>∃ (A B:List (Nat×Nat)) (v3 v4:Option Sl),Z=[some (.sh (wiP G n W)),some (.ow (G.GA A)),some (.ow (G.GD B)),v3,v4]/\Pm n W A B/\(∀ a,j<=a->lk A a=none)/\∃ Dd,dB W B Dd/\∀ a,a<j->lk A a=none->Dd a)
  ⟨[],[],none,none,by rw[G.nil];rfl,⟨by simp,by simp,λa g=>by simp[lk],λ{a g} h=>by simp[lk] at h⟩,λa _=>rfl,λ_=>False,λd h=>h.elim,λa h=>absurd h (Zby _)⟩ ?_ ?_
 case refine_2=>
  rintro Z ⟨A,B,v3,v4,rfl,P,un,Dd,c,hd⟩;walk_at "rd"
  unfold oO;walk_at "rd"
  exact⟨A,rfl,B,P,Dd,c,λa ha=>hd a (by simpa[aZ] using ha)⟩
 rintro j y Z ey ⟨A,B,v3,v4,rfl,P,un,Dd,c,hd⟩;obtain⟨s,es,rfl⟩:=ye ey;have hs:s=j/\s<n:=by
  have hj:j<n:=by simpa using(Zad.mp es).1
  rw[Zbh hj] at es;cases es;exact⟨rfl,hj⟩
 obtain⟨rfl,sn⟩:=hs;obtain⟨g,R,cb,ew,he⟩:=oV (G:=G) (B:=B) (S:=[s]) hN (by simp) (λa ha=>by simp at ha;omega) wl λg b h=>(P.ok ((P.iff _ _).mpr h)).2
 unfold oN;walk_at "rd"
 refine⟨ZaA (big (by omega)),?_⟩
 rw[show[PV.int (s:Int)]=aZ [s] from rfl,ew];walk_at "rd"
 cases g with
 |none=>
  obtain⟨hw,hc⟩:=he;refine⟨_,_,xW,A,B,_,_,rfl,P,λa ha=>un a (by omega),λd=>Dd d\/d∈R,λd hd' g hg=>?_,λa ha hl=>?_⟩
  ·rcases hd' with h|h
   ·obtain⟨d',h1,h2⟩:=c d h g hg;exact⟨d',h1,.inl h2⟩
   ·obtain⟨p,hp,rfl⟩:=Zai.mp (hc d h g hg);cases e:lk B p.1 with
    |none=>exact absurd e (hw.pr p hp)
    |some b=>
     refine⟨b,rfl,.inr ?_⟩;rw[hw.eq];exact ZaJ _ (Zai.mpr ⟨p,hp,by rw[e];rfl⟩)
  ·by_cases e:a=s
   ·right;subst e;rw[hw.eq];simp
   ·exact .inl (hd a (by omega) hl)
 |some g=>
  obtain⟨cb',a,i,rfl,hw,ha,hg,hk,hb⟩:=he;obtain⟨A',B',e1,P',h1,h2,h3,c'⟩:=Gq (G:=G) hn hN wl P (hw.bk ha hg hk) c (un s (Zan _)) hb;refine⟨_,_,e1,A',B',_,_,rfl,P',λb hb'=>?_,Dd,c',λb hb' hl=>?_⟩
  ·cases e:lk A' b with
   |none=>rfl
   |some z=>
    rcases h3 b (by rw[e];simp) with h|h
    ·omega
    ·exact absurd (un b (by omega)) h
  ·by_cases e:b=s
   ·subst e;exact absurd hl h1
   ·refine hd b (by omega) ?_
    cases z:lk A b with
    |none=>rfl
    |some z'=>exact absurd hl (h2 b (by rw[z];simp))
theorem wZ{G:Gv}:∀ (l:List (Nat×Nat)) {B:List (Nat×Nat)},(B.map (·.1)).Nodup->B.length+l.length<=900->eZ (G.GD B) (l.map λp=>(G.gv p.2,PV.int (p.1:Int)))=some (G.GD (sV l B))
 |[],_,_,_=>rfl
 |p::l,B,nd,h=>by
  have h1:=G.put B p.2 p.1 nd (bY (by simp at h;lia))
  rw[Zaq];unfold eZ;rw[show PV.int (p.1:Int)=iV p.1 from rfl,h1];exact wZ l (yL nd _ _) (by have:=Gp p.2 p.1 B;simp at h;lia)
theorem qW{G:Gv}:∀ (l:List (Nat×Nat)),jo (l.map λp=>PV.tup [G.gv p.2,.int (p.1:Int)])=some (l.map λp=>(G.gv p.2,PV.int (p.1:Int)))
 |[]=>rfl
 |p::l=>by
  rw[Zaq];unfold jo;rw[qW l];rfl
theorem JP(l:List Nat):gR (aZ l)=some (l.map λ(n:Nat)=>(n:Int)):=by
 rw[show aZ l=(l.map λ(n:Nat)=>(n:Int)).map PV.int by simp[aZ]]
 exact mq _
theorem w5(G:Gv)(l:List (Nat×Nat)):uA (kvQ iK G.gv l)=l.map λp=>PV.tup [.int (p.1:Int),G.gv p.2]:=by
 unfold uA kvQ;rw[ZaS];rfl
theorem BW{G:Gv}{n N:Nat}{W:Nat->List Nat}{A B:List (Nat×Nat)}{Dd:Nat->Prop}(hn:n<=60)(hN:N<=120)(wl:∀ i g,g∈W i->g<N)(P:Pm n W A B)(c:dB W B Dd)(hd:∀ a,a<n->lk A a=none->Dd a) :
  ∃ B' R cb,eO [wiP G n W,G.GA A]=some (.ok (.tup [.lst ((srt (R.map λ(n:Nat)=>(n:Int))).map .int),.lst (G.srtd cb)]))/\(∀ g a,lk B' g=some a↔lk B g=some a)/\Wk n W B' (dF n A) R cb/\∀ a∈R,∀ x∈W a,x∈cb.map (·.1):=by
 have big:∀ {k:Nat},k<=900->k<sizeLine:=λh=>bY (by lia)
 have kl:∀ {l:List (Nat×Nat)}{k:Nat},k∈l.map (·.1)->∃ v,lk l k=some v:=λ{l k} h=>by
  cases e:lk l k with
  |none=>exact absurd h (lQ.mp e)
  |some v=>exact⟨v,rfl⟩
 have lA:A.length<=n:=jy P.ndA λx hx=>by obtain⟨v,hv⟩:=kl hx;exact(P.ok hv).2
 obtain⟨g,R,cb,ew,he⟩:=oV (G:=G) (B:=sV A []) (S:=dF n A) hN (by have:(dF n A).length<=(List.range n).length:=ZaO _ _;rw[ZaB] at this;lia) (λa ha=>by simpa[dF] using(Zav.mp ha).1) wl λg b h=>(P.ok ((P.iff _ _).mpr ((P.rev g b).mp h))).2
 have stay:∀ {R cb},Wk n W (sV A []) (dF n A) R cb->(∀ a∈R,Dd a):=λ{R cb} hw=>by
  intro a ha;obtain⟨i,hi⟩:=ZaZ ha;induction i using Nat.strongRecOn generalizing a with
  |_ i ih=>
   rw[hw.eq] at hi;by_cases hl:i<(dF n A).length
   ·rw[Zag hl] at hi;have:=Zav.mp (Zak hi);exact hd a (by simpa using this.1) (by simpa using this.2)
   ·rw[Zap (by lia),Zac] at hi
    cases q:cb[i-(dF n A).length]? with
    |none=>rw[q] at hi;cases hi
    |some p=>
     rw[q] at hi;have hi:some ((lk (sV A []) p.1).getD 0)=some a:=hi;obtain⟨j,h1,h2⟩:=hw.back _ p q;have dj:=ih j (by lia) p.2 (Zak h2) h2
     obtain⟨d',e1,e2⟩:=c p.2 dj p.1 (hw.wish p (Zak q));rw[(P.rev _ _).mpr e1] at hi;cases hi;exact e2
 have hg:g=none:=by
  cases g with
  |none=>rfl
  |some g=>
   obtain⟨cb',a,i,rfl,hw,ha,hg,hk,hb⟩:=he;obtain⟨d',e1,_⟩:=c a (stay hw a (Zak ha)) g hg;rw[(P.rev _ _).mpr e1] at hb;cases hb
 subst hg;obtain⟨hw,hc⟩:=he;refine⟨sV A [],R,cb,?_,P.rev,hw,hc⟩;refine iG ?_;unfold gU;rw[show startR [wiP G n W,G.GA A] 2=[some (.sh (wiP G n W)),some (.sh (G.GA A)),none,none] from rfl];walk_at "rd"
 rw[show G.GA A=.dk (kvQ iK G.gv A) from rfl,tv_ditems,w5,fG (λp:Nat×Nat=>PV.tup [.int (p.1:Int),G.gv p.2]) (λ_=>true) (λp=>PV.tup [G.gv p.2,.int (p.1:Int)]) A λp _=>⟨_,rfl,rfl,λ_=>fC (by walk_at "rd";exact ZaA (big (by lia)))⟩,tv_some,Zbw.mpr (λ_ _=>rfl)]
 have pa:eZ QD (A.map λp=>(G.gv p.2,PV.int (p.1:Int)))=some (G.GD (sV A [])):=by
  have h:=wZ (G:=G) A (B:=[]) (by simp) (by simp;lia)
  rw[G.nil] at h;exact h
 refine⟨rfl,by rw[Zab];exact ZaA (big (by lia)),_,qW A,_,pa,rfl,?_⟩
 rw[show wiP G n W=.dk ((List.range n).map λ(i:Nat)=>((.inl (i:Int):Key),PV.lst (G.GL (W i)))) from rfl,tv_dkeys,sr,<-show wiP G n W=.dk ((List.range n).map λ(i:Nat)=>((.inl (i:Int):Key),PV.lst (G.GL (W i)))) from rfl];refine⟨by simp only[aZ,Zab,ZaB];exact ZaA (big (by lia)),?_⟩
 rw[show aZ (List.range n)=(List.range n).map λ(i:Nat)=>PV.int (i:Int) from rfl,fG (λi:Nat=>PV.int (i:Int)) (λa=>(lk A a).isNone) (λi:Nat=>PV.int (i:Int)) (List.range n) λa _=>⟨_,rfl,fC (by
  walk_at "rd"
  rw[show cI (kvQ iK G.gv A) (.inl (a:Int))=(lk A a).map G.gv from mH yd a A];cases lk A a<;>rfl),λ_=>fC (by walk_at "rd")⟩,tv_some,show((List.range n).filter λa=>(lk A a).isNone).map (λ(i:Nat)=>PV.int (i:Int))=aZ (dF n A) from rfl,ew]
 walk_at "rd"
 have hR:=hw.len;have hcb:=hw.nU wl;have hf:(dF n A).length<=(List.range n).length:=ZaO _ _;rw[ZaB] at hf;have nR:R.length<=n:=by
  have:=bQ (l:=R) (k:=List.range n) (Wk.ndR P P.rev hw) λx hx=>Zay.mpr (hw.lt x hx);simpa using this
 refine⟨_,JP R,by rw[Zab];lia,G.isD _,G.srt cb _ (by lia) ?_⟩
 exact⟨ZaA (big (by lia)),rfl⟩
theorem Qg{n:Nat}{G:Nat->Nat->Prop}{W:Nat->List Nat}{A B B':List (Nat×Nat)}{R:List Nat}{cb:List (Nat×Nat)}(wG:∀ a g,g∈W a↔g<a/\G g a)(wl:∀ i g,g∈W i->g<n)(tr:∀ {i j k},G i j->G j k->G i k)(P:Pm n W A B)(hB:∀ g a,lk B' g=some a↔lk B g=some a)(hw:Wk n W B' (dF n A) R cb)(hc:∀ a∈R,∀ x∈W a,x∈cb.map (·.1)) :
  R.Nodup/\(∀ a∈R.filter (λa=>!(cb.map (·.1)).contains a),∀ b∈R.filter (λa=>!(cb.map (·.1)).contains a),a<b->¬G a b)/\(R.filter λa=>!(cb.map (·.1)).contains a).length=(dF n A).length:=by
 have nd:R.Nodup:=Wk.ndR P hB hw;have ap:∀ a∈R.filter (λa=>!(cb.map (·.1)).contains a),∀ b∈R.filter (λa=>!(cb.map (·.1)).contains a),a<b->¬G a b:=λa ha b hb hab hg=>by
  have h1:=(Zav.mp ha).2;have h2:=hc b (Zav.mp hb).1 a ((wG b a).mpr ⟨hab,hg⟩);rw[Zbz.mpr h2] at h1;cases h1
 refine⟨nd,ap,Zc4 ?_ ?_⟩
 ·have M:Mt G (lk A):=⟨λ{j i} h=>(wG _ _).mp (P.ok h).1,λ{j k i} h1 h2=>by
   have a1:=(P.iff _ _).mp h1;rw[(P.iff _ _).mp h2] at a1;exact(Zaf a1).symm⟩
  exact ZR M tr (ZbP Za5 nd) (λa ha=>hw.lt a (Zav.mp ha).1) ap
 ·have h1:=hw.len;have h2:(R.filter λa=>(cb.map (·.1)).contains a).length<=(cb.map (·.1)).length:=bQ (ZbP Za5 nd) λx hx=>Zbz.mp (Zav.mp hx).2;have h3:R.length=(R.filter λa=>(cb.map (·.1)).contains a).length+(R.filter λa=>!(cb.map (·.1)).contains a).length:=by
   rw[<-ZcG,<-ZcG,List.length_eq_countP_add_countP (λa=>(cb.map (·.1)).contains a)];congr 2
   funext a
   cases (cb.map (·.1)).contains a<;>rfl
  rw[Zab] at h2;omega
theorem Eu:∀ (l:List (Nat×Nat)),oF ((kvQ iK iV l).map (·.1))=some ((l.map (·.1)).map λ(n:Nat)=>(n:Int))
 |[]=>rfl
 |p::l=>by
  show(oF ((kvQ iK iV l).map (·.1))).map ((p.1:Int)::·)=_
  rw[Eu l];rfl
def gvI:Gv where
 gv:=iV
 GD l:=.dk (kvQ iK iV l)
 srtd l:=(srt ((l.map (·.1)).map λ(n:Nat)=>(n:Int))).map .int
 still _:=rfl
 nn _:=rfl
 nil:=rfl
 isD _:=rfl
 sh l:=ZaT.mpr λp hp=>by
  obtain⟨n,_,rfl⟩:=Zai.mp hp;rfl
 find l g:=by
  show dY (.dk (kvQ iK iV l)) (.int (g:Int))=_
  rw[dF_int];exact ZaY some (mH yd g l)
 put l g a nd h:=by
  show yR (.dk (kvQ iK iV l)) (.int (g:Int)) (iV a)=_
  rw[xT,Zam (by rw[zr];exact h)]
  exact ZaY (λz=>some (PV.dk z)) (qU yd g a nd)
 srt l Q h q:=by
  show Tv (vX (.dk (kvQ iK iV l))) Q
  rw[tv_sortD];exact⟨_,Eu l,by simpa using h,q⟩
noncomputable abbrev kvP(l:List (Nat×Nat)):List (Key×PV):=kvQ iK iV l
theorem zx(k:Nat)(l:List (Nat×Nat)):cI (kvP l) (.inl (k:Int))=(lk l k).map λv=>.int (v:Int):=mH yd k l
theorem Zr{l:List (Nat×Nat)}{k:Nat}:dY (.dk (kvP l)) (.int (k:Int))=some ((lk l k).map λv=>.int (v:Int)):=by rw[dF_int,zx]
theorem WD{l:List (Nat×Nat)}{k v:Nat}(nd:(l.map (·.1)).Nodup)(h:l.length<sizeLine):yR (.dk (kvP l)) (.int (k:Int)) (.int (v:Int))=some (.dk (kvP (ptN l k v))):=gvI.put l k v nd h
def inN(st:List Nat)(i j:Nat):Prop:=st.getD j 0 &&& st.getD i 0=st.getD j 0
theorem Yk{st:List Nat}{i j k:Nat}(h1:inN st i j)(h2:inN st j k):inN st i k:=by
 unfold inN at *;rw[<-h2,ZcW,h1]
def Oh(st:List Nat)(j:Nat):List Nat:=(List.range j).filter λi=>decide (st.getD j 0 &&& st.getD i 0=st.getD j 0)
theorem Qh{st:List Nat}(a g:Nat):g∈Oh st a↔g<a/\inN st g a:=by
 unfold Oh inN;rw[Zav,Zay,decide_eq_true_eq]
theorem TY(a b:Nat):Builtin.bitAnd (a:Int) (b:Int)=((a &&& b:Nat):Int):=by
 rw[bitAnd_pp (Za1 _) (Za1 _),ZaD,ZaD]
theorem Qi(x y:Nat):wD [.int (x:Int),.int (y:Int)]=some (.ok (.bl (decide (x &&& y=x)))):=by
 show fin (wC (startR [.int (x:Int),.int (y:Int)] 0))=_
 refine iG ?_;unfold wC;walk_at "rd"
 rw[TY];exact decide_eq_decide.mpr ⟨λh=>by omega,λh=>by rw[h]⟩
theorem sy(n:Nat):pq 0 (n:Int).toNat=(List.range n).map λ(i:Nat)=>PV.int (i:Int):=by
 unfold pq;rw[ZaD];refine Za3 λi _=>?_;rw[Int.zero_add]
theorem Oi{l:List Nat}{i:Nat}(h:i<l.length):l[i]?=some (l.getD i 0):=by
 rw[Zao,Zae h];rfl
theorem T3{st:List Nat}{j:Nat}(hl:st.length<=60)(hj:j<st.length):ju [.lst (aZ st),.int (j:Int)]=some (.ok (.lst (aZ (Oh st j)))):=by
 show qb (jt (startR [.lst (aZ st),.int (j:Int)] 0))=_
 refine rQ ?_;unfold jt;walk_at "rd"
 have big:∀ {k:Nat},k<=900->k<sizeLine:=λh=>bY (by omega)
 rw[sy,fG (λi:Nat=>PV.int (i:Int)) (λi=>decide (st.getD j 0 &&& st.getD i 0=st.getD j 0)) (λi:Nat=>PV.int (i:Int)) (List.range j) λi hi=>⟨_,rfl,fC (by
  have il:i<st.length:=by have:=Zay.mp hi;omega
  walk_at "rd"
  refine⟨_,qX (Oi hj),_,qX (Oi il),?_⟩;rw[Qi];walk_at "rd"),λ_=>fC (by walk_at "rd")⟩,tv_some]
 exact⟨by omega,by omega,by rw[Zab,ZaB];exact ZaA (big (by omega)),rfl⟩
theorem Oj{p:PV}{k:Key}:∀ {l:List (Key×PV)},cI l k=none->gY l k p=l++[(k,p)]
 |[],_=>rfl
 |(a,q)::l,h=>by
  unfold cI at h;split at h
  ·cases h
  ·rename_i hp;unfold gY;rw[Zal hp,Oj h];rfl
theorem JQ{f:Nat->PV}{k:Nat}:∀ {l:List Nat},k ∉ l->cI (l.map λ(i:Nat)=>((.inl (i:Int):Key),f i)) (.inl (k:Int))=none
 |[],_=>rfl
 |i::l,h=>by
  rw[Zaq];unfold cI;rw[Zal (Wz λe=>h (by rw[e];exact Zax))]
  exact JQ λz=>h (Zat _ z)
theorem T4(f:Nat->PV):∀ (l l0:List Nat),(l0++l).Nodup->l0.length+l.length<=900->eZ (.dk (l0.map λ(i:Nat)=>((.inl (i:Int):Key),f i))) (l.map λ(i:Nat)=>(PV.int (i:Int),f i))=some (.dk ((l0++l).map λ(i:Nat)=>((.inl (i:Int):Key),f i)))
 |[],l0,_,_=>by rw[Zbp];rfl
 |i::l,l0,nd,hl=>by
  simp only[ZaP] at hl;rw[Zaq];unfold eZ;have hi:i ∉ l0:=λz=>(Zbi.mp nd).2.2 i z i Zax rfl;rw[xT,Zam (by rw[Zab];exact bY (by omega)),Oj (JQ hi)]
  have:=T4 f l (l0++[i]) (by rw[Zbc];exact nd) (by rw[Zas];simp;omega)
  rw[ZaW,Zbc] at this;exact this
theorem JR(f:Nat->PV):∀ (l:List Nat),jo (l.map λ(i:Nat)=>PV.tup [.int (i:Int),f i])=some (l.map λ(i:Nat)=>(PV.int (i:Int),f i))
 |[]=>rfl
 |i::l=>by
  rw[Zaq];unfold jo;rw[JR f l];rfl
def ofN(st:List Nat)(i j:Nat):Prop:=j<st.length/\inN st i j
def GK(st:List Nat)(j:Nat):List Nat:=if j<st.length then Oh st j else[]
theorem xg{st:List Nat}(a g:Nat):g∈GK st a↔g<a/\ofN st g a:=by
 unfold GK ofN;split
 ·rename_i h;rw[Qh];simp[h]
 ·rename_i h;simp[h]
theorem T5(x:Int)(ns:List Int):inU (.int x) (.lst (ns.map .int))=some (ns.contains x):=by
 show inF (.int x) (ns.map .int)=_
 rw[Gk (g:=PV.int) (eqF_int 31),List.contains_eq_mem]
structure Chs(n:Nat)(A:List (Nat×Nat))(L:List (List Nat)):Prop where
 ne:∀ r∈L,r≠[]
 link:∀ r∈L,∀ (t x y:Nat),r[t]?=some x->r[t+1]?=some y->lk A y=some x
 inc:∀ r∈L,r.Pairwise (·<·)
 all:∀ i,i<n↔i∈L.flatten
 nd:L.flatten.Nodup
 hd:(L.map λr=>r.headD 0).Pairwise (·<·)
theorem Chs.nil(A:List (Nat×Nat)):Chs 0 A []:=⟨λr h=>by simp at h,λr h=>by simp at h,λr h=>by simp at h,λi=>by simp,by simp,by simp⟩
theorem Qj{r:List Nat}(h:r≠[]):r.headD 0∈r:=by
 cases r with
 |nil=>exact absurd rfl h
 |cons a l=>simp
theorem Chs.new{n:Nat}{A:List (Nat×Nat)}{L:List (List Nat)}(h:Chs n A L):Chs (n+1) A (L++[[n]]):=by
 have lt:∀ i∈L.flatten,i<n:=λi hi=>(h.all i).mpr hi;refine⟨λr hr=>?_,λr hr t x y e1 e2=>?_,λr hr=>?_,λi=>?_,?_,?_⟩
 ·rcases ZaK.mp hr with q|q
  ·exact h.ne r q
  ·simp at q;subst q;simp
 ·rcases ZaK.mp hr with q|q
  ·exact h.link r q t x y e1 e2
  ·simp at q;subst q;simp at e2
 ·rcases ZaK.mp hr with q|q
  ·exact h.inc r q
  ·simp at q;subst q;simp
 ·rw[ZbX,ZaK];simp only[ZbE,List.flatten_nil,Zbp,Za2,<-h.all];omega
 ·rw[ZbX,Zbi];refine⟨h.nd,by simp,λx hx y hy e=>?_⟩
  simp at hy;have:=lt x hx;omega
 ·rw[ZaW,Zcc];refine⟨h.hd,by simp,λx hx y hy=>?_⟩
  obtain⟨r,hr,rfl⟩:=Zai.mp hx;simp at hy;subst hy;exact lt _ (Zc0.mpr ⟨r,hr,Qj (h.ne r hr)⟩)
theorem JS(j:Nat):∀ {L:List (List Nat)}{k:Nat}{r:List Nat},L[k]?=some r->(L.set k (r++[j])).flatten.Perm (L.flatten++[j])
 |[],k,r,e=>by simp at e
 |a::L,0,r,e=>by
  have e:a=r:=by simpa using e
  subst e;simp only[List.set_cons_zero,ZbE,Zbc];exact Zcw _ List.perm_append_comm
 |a::L,k+1,r,e=>by
  simp only[List.set_cons_succ,ZbE,Zbc];exact Zcw _ (JS j (by simpa using e))
theorem Chs.more{n g k:Nat}{A:List (Nat×Nat)}{L:List (List Nat)}{r:List Nat}(h:Chs n A L)(inj:∀ a b g,lk A a=some g->lk A b=some g->a=b)(ha:lk A n=some g)(hk:L[k]?=some r)(hg:g∈r):Chs (n+1) A (L.set k (r++[n])):=by
 have lt:∀ i∈L.flatten,i<n:=λi hi=>(h.all i).mpr hi;have mr:r∈L:=Zak hk;have rl:∀ i∈r,i<n:=λi hi=>lt i (Zc0.mpr ⟨r,mr,hi⟩);have last:∀ t x,t+1=r.length->r[t]?=some x->x=g:=λt x ht hx=>by
  obtain⟨s,hs⟩:=ZaZ hg;by_cases e:s=t
  ·subst e;rw[hx] at hs;exact Zaf hs
  ·have sl:s<r.length:=(Zad.mp hs).1;have s1:s+1<r.length:=by omega
   have e2:r[s+1]?=some r[s+1]:=Zae s1;have:=inj _ _ _ (h.link r mr s g _ hs e2) ha;have:=rl _ (ZbY s1);omega
 have pm:=JS n hk;have rows:∀ q∈L.set k (r++[n]),q∈L\/q=r++[n]:=λq hq=>List.mem_or_eq_of_mem_set hq;refine⟨λq hq=>?_,λq hq t x y e1 e2=>?_,λq hq=>?_,λi=>?_,?_,?_⟩
 ·rcases rows q hq with z|z
  ·exact h.ne q z
  ·subst z;simp
 ·rcases rows q hq with z|z
  ·exact h.link q z t x y e1 e2
  ·subst z;by_cases h1:t+1<r.length
   ·rw[Zag h1] at e2;rw[Zag (by omega)] at e1
    exact h.link r mr t x y e1 e2
   ·rw[Zap (by omega)] at e2
    have:t+1-r.length=0:=by
     rcases Nat.eq_zero_or_pos (t+1-r.length) with q|q
     ·exact q
     ·rw[ZaQ (by simp;omega)] at e2;cases e2
    rw[this] at e2;have e2:n=y:=by simpa using e2
    subst e2;rw[Zag (by omega)] at e1
    rw[last t x (by omega) e1]
    exact ha
 ·rcases rows q hq with z|z
  ·exact h.inc q z
  ·subst z;rw[Zcc];refine⟨h.inc r mr,by simp,λx hx y hy=>?_⟩
   simp at hy;subst hy;exact rl x hx
 ·rw[pm.mem_iff,ZaK,<-h.all];simp;omega
 ·rw[pm.nodup_iff,Zbi];refine⟨h.nd,by simp,λx hx y hy e=>?_⟩
  simp at hy;have:=lt x hx;omega
 ·have e:(L.set k (r++[n])).map (λr=>r.headD 0)=L.map λr=>r.headD 0:=by
   rw[List.map_set];apply ZbG
   intro i;rw[ZbF];split
   ·rename_i e;subst e;rw[Zam (by rw[Zab];exact(Zad.mp hk).1),Zac,hk]
    have:=h.ne r mr;cases r with
    |nil=>exact absurd rfl this
    |cons a l=>rfl
   ·rfl
  rw[e];exact h.hd
def CZ(r:List Nat):PV:=.lst (aZ r)
theorem Ly{n:Nat}{A:List (Nat×Nat)}(hn:n<=60)(lt:∀ a g,lk A a=some g->g<a)(inj:∀ a b g,lk A a=some g->lk A b=some g->a=b) :
  ∃ L:List (List Nat),jb [.int (n:Int),.dk (kvP A)]=some (.ok (.lst (L.map CZ)))/\L.length=(dF n A).length/\Chs n A L:=by
 have big:∀ {k:Nat},k<=900->k<sizeLine:=λh=>bY (by omega)
 suffices h:∃ p,jb [.int (n:Int),.dk (kvP A)]=some (.ok p)/\∃ L:List (List Nat),p=.lst (L.map CZ)/\L.length=(dF n A).length/\Chs n A L by
  obtain⟨p,e,L,rfl,h⟩:=h;exact⟨L,e,h⟩
 show ∃ p,xN (m7 (startR [.int (n:Int),.dk (kvP A)] 3))=some (.ok p)/\∃ L:List (List Nat),p=.lst (L.map CZ)/\L.length=(dF n A).length/\Chs n A L
 refine zp ?_;unfold m7;rw[show startR [PV.int (n:Int),.dk (kvP A)] 3=[some (.sh (.int (n:Int))),some (.sh (.dk (kvP A))),none,none,none] from rfl];walk_at "rd"
 refine⟨rfl,by omega,by omega,?_⟩
 refine dJ (I:=λj Z=>∃ (L:List (List Nat)) (C:List (Nat×Nat)) (v4:Option Sl),Z=[some (.sh (.int (n:Int))),some (.sh (.dk (kvP A))),some (.dp (.lst (L.map CZ))),some (.ow (.dk (kvP C))),v4]/\L.length=(dF j A).length/\Chs j A L/\(C.map (·.1)).Nodup/\C.length<=j/\∀ i,i<j->∃ k r,lk C i=some k/\L[k]?=some r/\i∈r) ⟨[],[],none,rfl,rfl,Chs.nil A,by simp,Zan _,λi h=>absurd h (Zby _)⟩ ?_ ?_
 case refine_2=>
  rintro Z ⟨L,C,v4,rfl,h1,h2,h3,h4,h5⟩;rw[iU,ZaD] at h1 h2;walk_at "rd"
  unfold tL;walk_at "rd"
  exact⟨L,rfl,h1,h2⟩
 rintro j y Z ey ⟨L,C,v4,rfl,h1,h2,h3,h4,h5⟩;obtain⟨jn,hy⟩:=Gm ey;have hy:y=.int (j:Int):=by rw[hy];congr 1;omega
 subst hy;have jn:j<n:=by omega
 have hL:L.length<=60:=by
  have:(dF j A).length<=(List.range j).length:=ZaO _ _;rw[ZaB] at this;omega
 have rlen:∀ r∈L,r.length<=j:=λr hr=>by
  have nd:r.Nodup:=(h2.inc r hr).imp λh=>ZaE h;have:=bQ (l:=r) (k:=List.range j) nd λx hx=>Zay.mpr ((h2.all x).mpr (Zc0.mpr ⟨r,hr,hx⟩));simpa using this
 have fs:(dF (j+1) A).length=(dF j A).length+if(lk A j).isNone then 1 else 0:=by
  unfold dF;rw[List.range_succ,List.filter_append,Zas];congr 1
  rw[Za8];cases lk A j<;>rfl
 unfold tK;walk_at "rd"
 rw[zx];cases ha:lk A j with
 |none=>
  rw[ha] at fs;rw[Zcr,Zb2,Zal (by decide)]
  unfold tH;walk_at "rd"
  rw[Zab];refine⟨rfl,_,WD h3 (big (by omega)),Vl (l:=L.map CZ) rfl ?_⟩
  walk_at "rd"
  have pl:=Gp j L.length C;refine⟨ZaA (big (by omega)),rfl,by rw[Zab];exact big (by omega),L++[[j]],ptN C j L.length,_,by rw[ZaW];rfl,by rw[Zas,h1,fs];rfl,h2.new,yL h3 _ _,by omega,λi hi=>?_⟩
  by_cases e:i=j
  ·exact⟨L.length,by rw[fW,Zam e],[j],by simp,by simp[e]⟩
  ·obtain⟨k,r,k1,k2,k3⟩:=h5 i (by omega)
   exact⟨k,by rw[fW,Zal e];exact k1,r,by rw[Zag (Zad.mp k2).1];exact k2,k3⟩
 |some g=>
  rw[ha] at fs;rw[Zbu,ZbO,Zam rfl];unfold tG;walk_at "rd"
  obtain⟨k,row,k2,hrow,kg⟩:=h5 g (lt j g ha);have k1:k<L.length:=(Zad.mp hrow).1;have rl:=rlen row (Zak hrow);have nrl:(aZ row).length=row.length:=by simp[aZ]
  have pl:=Gp j k C;refine⟨.int (g:Int),by rw[zx,ha];rfl,.int (k:Int),by rw[Zr,k2];rfl,_,WD h3 (big (by omega)),?_⟩
  refine Vm (l:=L.map CZ) (n:=(k:Int)) (j:=k) (row:=aZ row) (q:=.int (j:Int)) rfl (fC ?_) ?_ (by rw[Zac,hrow];rfl) (fC ?_) rfl (by rw[nrl];exact big (by omega)) ?_
  ·walk_at "rd"
   exact⟨_,by rw[zx,fW,Zam rfl];rfl,rfl⟩
  ·rw[Zab];have:=Xg (n:=L.length) (i:=(k:Int)) (by omega) (by omega)
   simpa using this
  ·walk_at "rd"
  ·walk_at "rd"
   refine⟨L.set k (row++[j]),ptN C j k,some (.sh (.int (j:Int))),by rw[yf,List.map_set];rfl,by rw[List.length_set,h1,fs];rfl,h2.more inj ha hrow kg,yL h3 _ _,by omega,λi hi=>?_⟩
   by_cases e:i=j
   ·exact⟨k,by rw[fW,Zam e],row++[j],by rw[ZbF,Zam rfl,Zam k1],by simp[e]⟩
   ·obtain⟨k',r',q1,q2,q3⟩:=h5 i (by omega)
    by_cases ek:k'=k
    ·subst ek;rw[hrow] at q2;cases q2;exact⟨k',by rw[fW,Zal e];exact q1,row++[j],by rw[ZbF,Zam rfl,Zam k1],Zbm _ q3⟩
    ·exact⟨k',by rw[fW,Zal e];exact q1,r',by rw[Zaw (Zbl ek)];exact q2,q3⟩
theorem Qk{st:List Nat}(hl:st.length<=60):∃ (L:List (List Nat)) (B:List Nat) (A:List (Nat×Nat)),fD [.lst (aZ st)]=some (.ok (.tup [.lst (L.map CZ),.lst (aZ B)]))/\L.length=B.length/\Chs st.length A L/\(∀ a g,lk A a=some g->inN st g a)/\B.Pairwise (·<·)/\(∀ b∈B,b<st.length)/\∀ a∈B,∀ b∈B,a<b->¬inN st a b:=by
 have big:∀ {k:Nat},k<=900->k<sizeLine:=λh=>bY (by omega)
 have wl:∀ i g,g∈GK st i->g<st.length:=λi g h=>by
  have:=(xg i g).mp h;have:=this.2.1;omega
 have tr:∀ {i j k},ofN st i j->ofN st j k->ofN st i k:=λh1 h2=>⟨h2.1,Yk h1.2 h2.2⟩;obtain⟨A,B,em,P,Dd,c,hd⟩:=Gr (G:=gvI) hl (by omega) wl
 obtain⟨B',R,cb,es,hB,hw,hc⟩:=BW (G:=gvI) hl (by omega) wl P c hd
 obtain⟨nd,hap,hlen⟩:=Qg xg wl tr P hB hw hc;have inj:∀ a b g,lk A a=some g->lk A b=some g->a=b:=λa b g h1 h2=>by
  have q:=(P.iff _ _).mp h1;rw[(P.iff _ _).mp h2] at q;exact(Zaf q).symm
 obtain⟨L,ec,hL,ch⟩:=Ly hl (λa g h=>((xg _ _).mp (P.ok h).1).1) inj;have ec:jb [.int (st.length:Int),gvI.GA A]=some (.ok (.lst (L.map CZ))):=ec;have sm:∀ x∈srt (R.map λ(n:Nat)=>(n:Int)),∃ n:Nat,n∈R/\x=(n:Int):=λx hx=>by
  obtain⟨n,hn,rfl⟩:=Zai.mp ((gZ _).mem_iff.mp hx);exact⟨n,hn,rfl⟩
 have slt:(srt (R.map λ(n:Nat)=>(n:Int))).Pairwise (·<·):=by
  have h1:=uz (R.map λ(n:Nat)=>(n:Int));have h2:(srt (R.map λ(n:Nat)=>(n:Int))).Nodup:=by
   rw[(gZ _).nodup_iff,List.Nodup,Zbj];exact nd.imp λh e=>h (by omega)
  exact h1.imp₂ (λh e=>by omega) h2
 generalize hF:((srt (R.map λ(n:Nat)=>(n:Int))).filter λx=>!(srt ((cb.map (·.1)).map λ(n:Nat)=>(n:Int))).contains x)=FL
 have fm:∀ x∈FL,∃ n:Nat,n∈R/\x=(n:Int)/\n ∉ cb.map (·.1):=λx hx=>by
  rw[<-hF] at hx;obtain⟨h1,h2⟩:=Zav.mp hx;obtain⟨n,hn,rfl⟩:=sm x h1;refine⟨n,hn,rfl,λz=>?_⟩;have:(srt ((cb.map (·.1)).map λ(n:Nat)=>(n:Int))).contains (n:Int)=true:=Zbz.mpr ((gZ _).mem_iff.mpr (Zai.mpr ⟨n,z,rfl⟩));rw[this] at h2;cases h2
 have eB:FL.map PV.int=aZ (FL.map Int.toNat):=by
  unfold aZ;rw[ZaS];refine Za3 λx hx=>?_;obtain⟨n,_,rfl,_⟩:=fm x hx;rfl
 refine⟨L,FL.map Int.toNat,A,?_,?_,ch,λa g h=>((xg _ _).mp (P.ok h).1).2.2,?_,λb hb=>?_,λa ha b hb hab z=>?_⟩
 ·show xN (iC (startR [.lst (aZ st)] 4))=_
  refine Vj ?_;unfold iC;walk_at "rd"
  have nl:((aZ st).length:Int)=(st.length:Int):=by simp[aZ]
  rw[nl,sy,fG (λi:Nat=>PV.int (i:Int)) (λ_=>true) (λi:Nat=>PV.tup [.int (i:Int),.lst (aZ (GK st i))]) (List.range st.length) λi hi=>⟨_,rfl,rfl,λ_=>fC (by
   have il:i<st.length:=Zay.mp hi;walk_at "rd"
   rw[T3 hl il];walk_at "rd"
   exact⟨ZaA (big (by omega)),by unfold GK;rw[Zam il]⟩)⟩,tv_some,Zbw.mpr (λ_ _=>rfl)]
  refine⟨by omega,by omega,by rw[Zab,ZaB];exact ZaA (big (by omega)),_,JR (λi=>.lst (aZ (GK st i))) _,_,T4 (λi=>.lst (aZ (GK st i))) _ [] (by simpa using ZbL) (by simp;omega),?_⟩
  rw[List.nil_append,show PV.dk ((List.range st.length).map λ(i:Nat)=>((.inl (i:Int):Key),PV.lst (aZ (GK st i))))=wiP gvI st.length (GK st) from rfl,em,tv_some,es,tv_some];walk_at "rd"
  have hR:=hw.len;have hcb:=hw.nU wl;have hf:(dF st.length A).length<=(List.range st.length).length:=ZaO _ _;rw[ZaB] at hf;refine⟨by rw[Zab,(gZ _).length_eq,Zab];exact ZaA (big (by omega)),?_⟩
  rw[fG PV.int (λx=>!(srt ((cb.map (·.1)).map λ(n:Nat)=>(n:Int))).contains x) PV.int _ λx _=>⟨_,rfl,fC (by
   walk_at "rd"
   exact⟨_,T5 _ _,rfl⟩),λ_=>fC (by walk_at "rd")⟩,tv_some,ec,tv_some,hF,eB]
  exact⟨pP _,ZaA (big (by decide)),rfl⟩
 ·rw[Zab,hL,<-hlen,<-hF];have e1:∀ x:Nat,(srt ((cb.map (·.1)).map λ(n:Nat)=>(n:Int))).contains (x:Int)=(cb.map (·.1)).contains x:=λx=>by
   rw[Zco,Zbz,Zbz,(gZ _).mem_iff,Zai];exact⟨λ⟨y,hy,e⟩=>by rw[show y=x by omega] at hy;exact hy,λh=>⟨x,h,rfl⟩⟩
  rw[((gZ (R.map λ(n:Nat)=>(n:Int))).filter _).length_eq,List.filter_map,Zab];exact(ZaY List.length (ZcV λx _=>by show(!(srt ((cb.map (·.1)).map λ(n:Nat)=>(n:Int))).contains (x:Int))=_;rw[e1])).symm
 ·rw[Zbj];have:FL.Pairwise (·<·):=by rw[<-hF];exact slt.sublist Za5
  refine this.imp_of_mem λ{x y} hx hy h=>?_;obtain⟨n,_,rfl,_⟩:=fm x hx;obtain⟨m,_,rfl,_⟩:=fm y hy;simpa using h
 ·obtain⟨x,hx,rfl⟩:=Zai.mp hb;obtain⟨n,hn,rfl,_⟩:=fm x hx;exact hw.lt n hn
 ·obtain⟨x,hx,rfl⟩:=Zai.mp ha;obtain⟨y,hy,rfl⟩:=Zai.mp hb;obtain⟨n,hn,rfl,q1⟩:=fm x hx;obtain⟨m,hm,rfl,q2⟩:=fm y hy;have im:∀ {n:Nat},n∈R->n ∉ cb.map (·.1)->n∈R.filter λa=>!(cb.map (·.1)).contains a:=λ{n} h1 h2=>Zav.mpr ⟨h1,by simpa using h2⟩
  exact hap n (im hn q1) m (im hm q2) hab ⟨hw.lt m hm,z⟩
end II
theorem Yl{i:Nat}{f:Fn PV}{Z:Rho}{QS:Out->Prop}{l r:List PV}(h:Z[i]?=some (some (.ow (.lst l))))(e:f Z=some (.ok (.lst r)))(hl:l.length+r.length<=sizeLine)(q:QS (.nx (Z.set i (some (.ow (.lst (l++r))))))):To (S9 i f Z) QS:=by
 have ho:ownAt i Z=some (.lst l):=by unfold ownAt;rw[h]
 unfold S9;rw[ho];exact⟨.nx (Z.set i (some (.ow (.lst (l++r))))),by simp only[e,fZ];rw[Zam hl],trivial,q⟩
theorem Ym{row:Bool}{l f t x:Int}:∀ {c:Int×Int},c=bV row l x->f<=x->x<=t->c∈dz row l f t:=by
 rintro c rfl h1 h2;exact Zai.mpr ⟨(x-f).toNat,Zay.mpr (by omega),by rw[show f+((x-f).toNat:Int)=x by omega]⟩
theorem Yn{w h:Int}{keep:Nat}{row:Bool}{c:Int×Int}(cl:Cell w h c.1 c.2)(no:keep.testBit (Mth.pl w.toNat c)=false):On w h row (lnOf row c) (runC w h keep row c).1 (runC w h keep row c).2:=by
 have r:=((xf (row:=row) cl no).run).1;have b1:=r.b1;have f0:=r.fr _ r.ab (Int.le_refl _);obtain⟨c0,c1,r0,r1⟩:=cl;unfold nA at b1;cases row with
 |true=>exact⟨r0,r1,r.a0,r.ab,by have:(runC w h keep true c).2<(w.toNat:Int):=b1;show _<w;omega⟩
 |false=>exact⟨c0,c1,r.a0,r.ab,by have:(runC w h keep false c).2<(h.toNat:Int):=b1;show _<h;omega⟩
def Bl(L:List (List Nat))(kv:List (Key×PV))(k:Nat):Prop:=∃ (b:Nat) (r:List Nat),cI kv (.inl (k:Int))=some (.int (b:Nat))/\L[b]?=some r/\k∈r
theorem Ql{st:List Nat}(hl:st.length<=8):∃ (L:List (List Nat)) (A:List (Nat×Nat)) (t:PV) (kv:List (Key×PV)) (bl:Nat->Nat),fD [.lst (II.aZ st)]=some (.ok (.tup [.lst (L.map II.CZ),t]))/\II.Chs st.length A L/\(∀ a g,lk A a=some g->II.inN st g a) /\
  d7 [.lst (II.aZ st)]=some (.ok (.dk kv))/\∀ k,k<st.length->cI kv (.inl (k:Int))=some (.int (bl k:Nat))/\∃ r,L[bl k]?=some r/\k∈r:=by
 obtain⟨L,B,A,ef,_,ch,hA,_⟩:=II.Qk (st:=st) (by omega)
 have lf:L.flatten.length<=8:=by
  have:=bQ (k:=List.range st.length) ch.nd λx hx=>Zay.mpr ((ch.all x).mpr hx);rw[ZaB] at this;omega
 suffices hs:∃ p,d7 [.lst (II.aZ st)]=some (.ok p)/\∃ kv:List (Key×PV),p=.dk kv/\∀ k∈L.flatten,Bl L kv k by
  obtain⟨p,e,kv,rfl,q⟩:=hs;refine⟨L,A,_,kv,λk=>match cI kv (.inl (k:Int)) with|some (.int b)=>b.toNat|_=>0,ef,ch,hA,e,λk hk=>?_⟩
  obtain⟨b,r,e1,e2,e3⟩:=q k ((ch.all k).mp hk);have eb:(match cI kv (.inl (k:Int)) with|some (.int b)=>b.toNat|_=>0)=b:=by rw[e1];rfl
  show cI kv (.inl (k:Int))=some (.int ((match cI kv (.inl (k:Int)) with|some (.int b)=>b.toNat|_=>0:Nat):Int))/\∃ r,L[(match cI kv (.inl (k:Int)) with|some (.int b)=>b.toNat|_=>0)]?=some r/\k∈r
  rw[eb];exact⟨e1,r,e2,e3⟩
 refine wz (x:=fV (startR [.lst (II.aZ st)] 4)) ?_;unfold fV;rw[show startR [.lst (II.aZ st)] 4=[some (.sh (.lst (II.aZ st))),none,none,none,none] from rfl];walk_at "rd"
 rw[ef];walk_at "rd"
 have tl:∀ i,(L.take i).flatten.length<=8:=λi=>by
  have:=ZaY (λl=>l.flatten.length) (List.take_append_drop i L);simp only[ZbX,Zas] at this;omega
 refine Jt (λi Z=>∃ (kv:List (Key×PV)) (v2 v3 v4:Option Sl),Z=[some (.sh (.lst (II.aZ st))),some (.ow (.dk kv)),v2,v3,v4]/\kv.length<=(L.take i).flatten.length/\∀ k∈(L.take i).flatten,Bl L kv k) ⟨[],none,none,none,rfl,by simp,by simp⟩ ?_ ?_
 ·rintro i x Z hx ⟨kv,v2,v3,v4,rfl,h1,h2⟩;rw[Zac] at hx;cases er:L[i]? with
  |none=>rw[er] at hx;cases hx
  |some r=>
   rw[er] at hx;cases hx;have lr:(L.take i).flatten.length+r.length<=8:=by
    have:=tl (i+1);rw[take_snoc er,ZbX,Zas] at this;simpa using this
   unfold lF II.CZ;walk_at "rd"
   refine dJ (λj Z=>∃ (kv:List (Key×PV)) (v4:Option Sl),Z=[some (.sh (.lst (II.aZ st))),some (.ow (.dk kv)),some (.sh (.int (i:Nat))),some (.sh (.lst (II.aZ r))),v4]/\kv.length<=(L.take i).flatten.length+j/\∀ k∈(L.take i).flatten++r.take j,Bl L kv k) ⟨kv,v4,rfl,h1,by simpa using h2⟩ ?_ ?_
   ·rintro j x Z hx ⟨kv,v4,rfl,h1,h2⟩;obtain⟨g,hg,rfl⟩:=II.ye hx;have gl:=(Zad.mp hg).1;unfold lE;walk_at "rd"
    refine⟨_,by rw[xT,Zam (bY (by omega))],gY kv (.inl (g:Int)) _,_,rfl,ZaI (qK _ _ kv) (by omega),λk hk=>?_⟩
    unfold Bl;rw[oK];by_cases e:k=g
    ·subst e;rw[Zam rfl];exact⟨i,r,rfl,er,Zak hg⟩
    ·rw[Zal (by intro z;have:=Zb3 z;omega)]
     rw[take_snoc hg,<-Zbc] at hk;rcases ZaK.mp hk with hk|hk
     ·exact h2 k hk
     ·exact absurd (Za2.mp hk) e
   ·rintro Z ⟨kv,v4,rfl,h1,h2⟩;have ln:(II.aZ r).length=r.length:=Zab _;rw[ln,ZcB] at h2;rw[ln] at h1;rw[turn_nx,take_snoc er,ZbX];exact⟨kv,_,_,_,rfl,by rw[Zas];simpa using h1,by simpa using h2⟩
 ·rintro Z ⟨kv,v2,v3,v4,rfl,h1,h2⟩;unfold lG;walk_at "rd"
  rw[Zab,ZcB] at h2;exact⟨_,rfl,h2⟩
theorem VB(n m:Nat):yS n m &&& m=0:=ZcC λp=>by
 rw[Zb6,Og,ZcZ];cases n.testBit p<;>cases m.testBit p<;>rfl
def cdP(b:Nat)(s:Sk):PV:=.tup [.str (Str.ofString "cut"),.int (b:Int),skP s]
def pdP(b k:Nat):PV:=.tup [.str (Str.ofString "print"),.int (b:Int),.int (k:Int)]
def Vk(w h:Int)(st:List Nat)(bl:Nat->Nat):Nat->Int->Nat
 |0,_=>CW w h
 |k+1,b=>if b=(bl k:Nat) then st.getD k 0 else Vk w h st bl k b
def Ci(bl:Nat->Nat)(Sf:Nat->List Sk)(k:Nat):List PV:=(Sf k).map (cdP (bl k))++[pdP (bl k) k]
def fY(bl:Nat->Nat)(Sf:Nat->List Sk):Nat->List PV
 |0=>[]
 |k+1=>fY bl Sf k++Ci bl Sf k
structure Cuts(w h:Int)(away keep:Nat)(S:List Sk):Prop where
 few:∃ T,cR [.tup [.int w,.int h],.int away,.int keep]=some (.ok (.tup [.lst (S.map skP),.lst T]))
 cov:Cov w h away keep (S.map toB)
 len:S.length<64
 on:∀ s∈S,skP s=qe (toB s).1 (toB s).2.1 (toB s).2.2.1 (toB s).2.2.2/\On w h (toB s).1 (toB s).2.1 (toB s).2.2.1 (toB s).2.2.2
theorem VD{w h:Int}(sz:Sz w h)(w8:w<=8)(h8:h<=8)(v keep:Nat):∃ S,Cuts w h (yS v keep) keep S:=by
 obtain⟨S,T,eS,cv,lS,mS⟩:=TQ sz w8 h8 (VB v keep);refine⟨S,⟨T,eS⟩,cv,lS,λs' hs'=>?_⟩;obtain⟨row,x,hx,rfl⟩:=mS s' hs';obtain⟨cl,aw⟩:=mO hx;rw[Og,Zcy,Bool.not_eq_true'] at aw;rw[Cd];exact⟨rfl,Yn cl aw.2⟩
theorem yg{bl:Nat->Nat}{Sf:Nat->List Sk}(h:∀ k,(Sf k).length<64):∀ k,(fY bl Sf k).length<=64*k
 |0=>Zan _
 |k+1=>by
  have:=yg (bl:=bl) h k;have:=h k;show(fY bl Sf k++Ci bl Sf k).length<=_
  unfold Ci;rw[Zas,Zas,Zab];show _+(_+1)<=_
  omega
theorem JT{bl:Nat->Nat}{Sf:Nat->List Sk}{k:Nat}:∀ {n:Nat},k<n->∃ r,fY bl Sf n=fY bl Sf k++(Ci bl Sf k++r)
 |0,h=>absurd h (Zby _)
 |n+1,h=>by
  by_cases e:k=n
  ·subst e;exact⟨[],by rw[Zbp];rfl⟩
  ·obtain⟨r,hr⟩:=JT (bl:=bl) (Sf:=Sf) (show k<n by omega)
   exact⟨r++Ci bl Sf n,by show fY bl Sf n++_=_;rw[hr];simp only[Zbc]⟩
theorem Yo{w h:Int}(sz:Sz w h)(w8:w<=8)(h8:h<=8){st:List Nat}(hl:st.length<=8):∃ (bl:Nat->Nat) (Sf:Nat->List Sk),rZ [.tup [.int w,.int h],.lst (II.aZ st)]=some (.ok (.lst (fY bl Sf st.length)))/\∀ k,Cuts w h (yS (Vk w h st bl k (bl k:Nat)) (st.getD k 0)) (st.getD k 0) (Sf k):=by
 obtain⟨L,A,t,kb,bl,ef,ch,hA,eb,hb⟩:=Ql hl;obtain⟨Sf,hS⟩:=Classical.axiomOfChoice λk=>VD sz w8 h8 (Vk w h st bl k (bl k:Nat)) (st.getD k 0);refine⟨bl,Sf,?_,hS⟩;refine rQ (x:=rY (startR [.tup [.int w,.int h],.lst (II.aZ st)] 7)) ?_;unfold rY;rw[show startR [.tup [.int w,.int h],.lst (II.aZ st)] 7=[some (.sh (.tup [.int w,.int h])),some (.sh (.lst (II.aZ st))),none,none,none,none,none,none,none] from rfl];walk_at "rd"
 rw[eb];walk_at "rd"
 refine Jt (λk Z=>∃ (kv:List (Key×PV)) (v5 v6 v7 v8:Option Sl),Z=[some (.sh (.tup [.int w,.int h])),some (.sh (.lst (II.aZ st))),some (.sh (.dk kb)),some (.ow (.dk kv)),some (.ow (.lst (fY bl Sf k))),v5,v6,v7,v8]/\kv.length<=k/\∀ b:Int,(cI kv (.inl b)).getD (.int (CW w h:Nat))=.int (Vk w h st bl k b:Nat)) ⟨[],none,none,none,none,rfl,Zan _,λ_=>rfl⟩ ?_ ?_
 ·rintro k x Z hx ⟨kv,v5,v6,v7,v8,rfl,h1,h2⟩;obtain⟨s,hg,rfl⟩:=II.ye hx;have hk:=(Zad.mp hg).1;have es:st.getD k 0=s:=by rw[Zao,hg];rfl
  have pl:=yg (bl:=bl) (λk=>(hS k).len) k;have lS:=(hS k).len;obtain⟨T,eS⟩:=(hS k).few;rw[es] at eS;unfold yI;walk_at "rd"
  refine⟨_,(hb k hk).1,?_⟩;walk_at "rd"
  rw[Qf sz];walk_at "rd"
  rw[h2,tv_and',TX];refine Yl rfl (r:=(Sf k).map (cdP (bl k))) (fC ?_) (by rw[Zab];exact ZaA (bY (by omega))) ?_
  ·walk_at "rd"
   rw[eS];walk_at "rd"
   rw[wX skP (cdP (bl k)) (Sf k) λs' hs'=>by
    walk_at "rd"
    exact⟨by decide,rfl⟩]
   walk_at "rd"
   rw[Zab];exact ZaA (bY (by omega))
  walk_at "rd"
  refine⟨by decide,by rw[Zas,Zab];exact bY (by omega),_,by rw[xT,Zam (bY (by omega))],gY kv (.inl ((bl k:Nat):Int)) _,_,_,_,_,by rw[Zbc];rfl,ZaI (qK _ _ kv) (by omega),λb=>?_⟩
  rw[oK];show _=PV.int ((if b=(bl k:Nat) then st.getD k 0 else Vk w h st bl k b:Nat):Int)
  by_cases e:b=(bl k:Nat)
  ·subst e;rw[Zam rfl,Zam rfl,es];rfl
  ·rw[Zal (by intro z;exact e (Zb3 z)),Zal e];exact h2 b
 ·rintro Z ⟨kv,v5,v6,v7,v8,rfl,h1,h2⟩;unfold yJ;walk_at "rd"
  rw[show(II.aZ st).length=st.length from Zab _]
theorem VF{w h:Int}{away keep:Nat}{S:List Sk}(c:Cuts w h away keep S){s:Sk}(hs:s∈S):Mth.xK w.toNat (dz (toB s).1 (toB s).2.1 (toB s).2.2.1 (toB s).2.2.2) &&& keep=0:=ZcC λp=>by
 rw[Zb6,ZcZ,Mth.My];by_cases q:∃ z∈dz (toB s).1 (toB s).2.1 (toB s).2.2.1 (toB s).2.2.2,Mth.pl w.toNat z=p
 ·obtain⟨z,hz,e⟩:=q;obtain⟨i,hi,rfl⟩:=Zai.mp hz;have hi:=Zay.mp hi;have:=(c.cov.on _ (Zai.mpr ⟨s,hs,rfl⟩) ((toB s).2.2.1+(i:Int)) (by omega) (by omega)).2
  rw[e] at this;rw[this,Zc6]
 ·rw[ZaH q];rfl
theorem T6{w h:Int}(sz:Sz w h){away keep b:Nat}{S:List Sk}(c:Cuts w h away keep S)(lt:away<2^(w.toNat*h.toNat)):∃ F:Nat,j6 [.tup [.int w,.int h],.lst (S.map (cdP b)),.int b,.int keep]=some (.ok (.int F))/\F &&& away=away:=by
 suffices hh:∃ p,j6 [.tup [.int w,.int h],.lst (S.map (cdP b)),.int b,.int keep]=some (.ok p)/\∃ F:Nat,p=.int F/\∀ s∈S,∀ i,(Mth.xK w.toNat (dz (toB s).1 (toB s).2.1 (toB s).2.2.1 (toB s).2.2.2)).testBit i=true->F.testBit i=true by
  obtain⟨p,e,F,rfl,hF⟩:=hh;refine⟨F,e,ZcC λi=>?_⟩;rw[Zb6];cases ha:away.testBit i with
  |false=>exact Zc6 _
  |true=>
   have pl:i<w.toNat*h.toNat:=by
    by_cases q:i<w.toNat*h.toNat
    ·exact q
    ·rw[Nat.testBit_lt_two_pow (ZaG lt (Nat.pow_le_pow_right (by decide) (by omega)))] at ha;cases ha
   obtain⟨z,hz,q1,q2,q3⟩:=c.cov.all (Mth.cellOf w.toNat i) (Cell.of (Mth.xJ pl)) (by rw[Mth.rC];exact ha)
   obtain⟨s,hs,rfl⟩:=Zai.mp hz;rw[hF s hs i (by rw[Mth.My];exact ZaF ⟨_,Ym (by rw[<-q1,Wx]) q2 q3,Mth.rC _ _⟩)];rfl
 refine Bp (x:=nu (startR [.tup [.int w,.int h],.lst (S.map (cdP b)),.int b,.int keep] 2)) ?_;unfold nu;rw[show startR [.tup [.int w,.int h],.lst (S.map (cdP b)),.int b,.int keep] 2=[some (.sh (.tup [.int w,.int h])),some (.sh (.lst (S.map (cdP b)))),some (.sh (.int b)),some (.sh (.int keep)),none,none] from rfl];walk_at "rd"
 refine dJ (λi Z=>∃ (F:Nat) (v5:Option Sl),Z=[some (.sh (.tup [.int w,.int h])),some (.sh (.lst (S.map (cdP b)))),some (.sh (.int b)),some (.sh (.int keep)),some (.sh (.int F)),v5]/\∀ s∈S.take i,∀ j,(Mth.xK w.toNat (dz (toB s).1 (toB s).2.1 (toB s).2.2.1 (toB s).2.2.2)).testBit j=true->F.testBit j=true) ⟨0,none,rfl,by simp⟩ ?_ ?_
 ·rintro i x Z hx ⟨F,v5,rfl,hF⟩;rw[Zac] at hx;cases hs:S[i]? with
  |none=>rw[hs] at hx;cases hx
  |some s=>
   rw[hs] at hx;cases hx;have sS:=Zak hs;obtain⟨ek,on⟩:=c.on s sS;unfold t7 cdP;walk_at "rd"
   refine⟨by decide,?_⟩
   rw[show ur [PV.str (Str.ofString "cut"),PV.int (b:Int),skP s] none (some 2)=[.str (Str.ofString "cut"),.int b] from rfl];refine⟨by decide,true,Te (n:=31) λy hy=>by
    simp only[ZaC,Zcj,or_false] at hy;rcases hy with rfl|rfl
    ·exact Tf _ _
    ·exact Jy _ _,?_⟩
   rw[Zal (by decide),ek,Vt on.ft,ZaF ⟨on.l0,on.l1,on.f0,on.t1⟩]
   walk_at "rd"
   unfold t6;walk_at "rd"
   rw[wY sz on];walk_at "rd"
   rw[j7,VF c sS,Zal (by simp)]
   unfold tZ;walk_at "rd"
   rw[wY sz on];walk_at "rd"
   rw[Lx];refine⟨_,_,rfl,λs' hs' j hj=>?_⟩;rw[Nat.testBit_or,Bool.or_eq_true];rw[take_snoc hs] at hs';rcases ZaK.mp hs' with hs'|hs'
   ·exact .inl (hF s' hs' j hj)
   ·cases Za2.mp hs';exact .inr hj
 ·rintro Z ⟨F,v5,rfl,hF⟩;rw[Zab,ZcB] at hF;unfold t8;walk_at "rd"
  exact⟨F,rfl,hF⟩
theorem VG(c:Int):∃ w h:Int,j5 [.int c]=some (.ok (.tup [.int w,.int h]))/\Sz w h/\w<=8/\h<=8:=by
 suffices hh:∃ p,j5 [.int c]=some (.ok p)/\∃ w h:Int,p=.tup [.int w,.int h]/\Sz w h/\w<=8/\h<=8 by
  obtain⟨p,e,w,h,rfl,q⟩:=hh;exact⟨w,h,e,q⟩
 obtain⟨a,ea,a0,a1⟩:=iJ c 3 (by decide)
 obtain⟨b,eb,b0,b1⟩:=iJ c 4 (by decide)
 refine Bp (x:=nq (startR [.int c] 1)) ?_;unfold nq;rw[show startR [.int c] 1=[some (.sh (.int c)),none] from rfl];walk_at "rd"
 rw[show(PV.int 3)=.int ((3:Nat):Int) from rfl,ea];walk_at "rd"
 rw[show(PV.int 4)=.int ((4:Nat):Int) from rfl,eb];walk_at "rd"
 refine⟨by decide,xH (λh=>?_) (λh=>?_)⟩
 ·unfold tX;walk_at "rd"
  have x0:=Za9 a (b:=8) (by decide)
  have x1:=ZaU a (b:=8) (by decide)
  have y0:=Za9 (a/8) (b:=8) (by decide)
  have y1:=ZaU (a/8) (b:=8) (by decide)
  exact⟨by decide,by decide,by decide,by decide,by decide,_,_,rfl,⟨by omega,by omega,by omega,by omega⟩,by omega,by omega⟩
 ·unfold tY;walk_at "rd"
  have x0:=Za9 a (b:=6) (by decide)
  have x1:=ZaU a (b:=6) (by decide)
  have y0:=Za9 (a/6) (b:=6) (by decide)
  have y1:=ZaU (a/6) (b:=6) (by decide)
  exact⟨by decide,by decide,by decide,by decide,by decide,_,_,rfl,⟨by omega,by omega,by omega,by omega⟩,by omega,by omega⟩
theorem Qm(ns:List Int){w h:Int}(sz:Sz w h)(many:Nat)(hm:many<=8):∃ st:List Nat,ik [.lst (ns.map .int),.tup [.int w,.int h],.int many]=some (.ok (.lst (II.aZ st)))/\st.length=many/\∀ s∈st,s<2^(w.toNat*h.toNat):=by
 suffices hh:∃ p,ik [.lst (ns.map .int),.tup [.int w,.int h],.int many]=some (.ok p)/\∃ st:List Nat,p=.lst (II.aZ st)/\st.length=many/\∀ s∈st,s<2^(w.toNat*h.toNat) by
  obtain⟨p,e,st,rfl,q⟩:=hh;exact⟨st,e,q⟩
 refine wz (x:=jP (startR [.lst (ns.map .int),.tup [.int w,.int h],.int many] 5)) ?_;unfold jP;rw[show startR [.lst (ns.map .int),.tup [.int w,.int h],.int many] 5=[some (.sh (.lst (ns.map .int))),some (.sh (.tup [.int w,.int h])),some (.sh (.int many)),none,none,none,none,none] from rfl];walk_at "rd"
 rw[II.sy];refine⟨by omega,by omega,?_⟩
 refine dJ (λi Z=>∃ (st:List Nat) (v4 v5 v6 v7:Option Sl),Z=[some (.sh (.lst (ns.map .int))),some (.sh (.tup [.int w,.int h])),some (.sh (.int many)),some (.ow (.lst (II.aZ st))),v4,v5,v6,v7]/\st.length=i/\∀ s∈st,s<2^(w.toNat*h.toNat)) ⟨[],none,none,none,none,rfl,rfl,by simp⟩ ?_ ?_
 ·rintro i x Z hx ⟨st,v4,v5,v6,v7,rfl,sl,sb⟩;rw[Zac] at hx;cases hr:(List.range many)[i]? with
  |none=>rw[hr] at hx;cases hx
  |some j=>
   rw[hr] at hx;cases hx;obtain⟨hi,ej⟩:=Zad.mp hr;rw[ZaB] at hi;rw[List.getElem_range] at ej;subst ej;obtain⟨c,ec⟩:=yc ns (3+i) (by omega)
   obtain⟨s,es,s2⟩:=TV sz c i (by omega)
   obtain⟨q,eq,q0,q1⟩:=iJ c 301 (by decide)
   obtain⟨r,er,r0,r1⟩:=iJ c 302 (by decide)
   unfold p7;walk_at "rd"
   rw[show(3+(i:Int))=((3+i:Nat):Int) by push_cast;rfl,ec]
   walk_at "rd"
   rw[es];walk_at "rd"
   rw[show(PV.int 301)=.int ((301:Nat):Int) from rfl,eq];walk_at "rd"
   have er:bI [.int c,.int 302]=_:=er;have fin3:∀ (m:Nat) (QS:Out->Prop),m<2^(w.toNat*h.toNat)->To (kI [some (.sh (.lst (ns.map .int))),some (.sh (.tup [.int w,.int h])),some (.sh (.int many)),some (.ow (.lst (II.aZ st))),some (.sh (.int i)),some (.sh (.int c)),some (.sh (.int m)),some (.sh (.int (q%4)))]) (turn (λZ=>∃ (st:List Nat) (v4 v5 v6 v7:Option Sl),Z=[some (.sh (.lst (ns.map .int))),some (.sh (.tup [.int w,.int h])),some (.sh (.int many)),some (.ow (.lst (II.aZ st))),v4,v5,v6,v7]/\st.length=i+1/\∀ s∈st,s<2^(w.toNat*h.toNat)) QS):=λm QS hm=>by
    unfold kI;walk_at "rd"
    rw[II.yf];refine⟨by unfold II.aZ;rw[Zab];exact bY (by omega),st++[m],_,_,_,_,rfl,by rw[Zas,sl];rfl,λs hs=>?_⟩
    rcases ZaK.mp hs with hs|hs
    ·exact sb s hs
    ·cases Za2.mp hs;exact hm
   have pk:0<(i:Int)->∃ t:Nat,atI (II.aZ st) (r%(i:Int))=some (.int t)/\t<2^(w.toNat*h.toNat):=λhi=>by
    have z0:0<=r%(i:Int):=Za9 _ (by omega)
    have z1:=ZaU r hi;obtain⟨k,ek⟩:=ZaX z0;rw[ek] at z1 ⊢;have kl:k<st.length:=by omega
    exact⟨st[k],II.qX (Zae kl),sb _ (ZbY kl)⟩
   have fin4:∀ (m:Nat) (QS:Out->Prop),m<2^(w.toNat*h.toNat)->To (kJ [some (.sh (.lst (ns.map .int))),some (.sh (.tup [.int w,.int h])),some (.sh (.int many)),some (.ow (.lst (II.aZ st))),some (.sh (.int i)),some (.sh (.int c)),some (.sh (.int m)),some (.sh (.int (q%4)))]) (turn (λZ=>∃ (st:List Nat) (v4 v5 v6 v7:Option Sl),Z=[some (.sh (.lst (ns.map .int))),some (.sh (.tup [.int w,.int h])),some (.sh (.int many)),some (.ow (.lst (II.aZ st))),v4,v5,v6,v7]/\st.length=i+1/\∀ s∈st,s<2^(w.toNat*h.toNat)) QS):=λm QS hm=>by
    unfold kJ;walk_at "rd"
    refine xH (λi0=>xH (λ_=>?_) (λ_=>fin3 m QS hm)) (λ_=>fin3 m QS hm);obtain⟨t,et,tl⟩:=pk i0;unfold p6;walk_at "rd"
    rw[er];walk_at "rd"
    exact⟨i0,_,et,fin3 t QS tl⟩
   refine⟨by decide,xH (λi0=>xH (λ_=>?_) (λ_=>fin4 s _ s2)) (λ_=>fin4 s _ s2)⟩
   obtain⟨t,et,tl⟩:=pk i0;unfold pZ;walk_at "rd"
   rw[er];walk_at "rd"
   refine⟨i0,_,et,?_⟩;rw[tv_and',j7];exact fin4 _ _ (Zbn Nat.and_le_left s2)
 ·rintro Z ⟨st,v4,v5,v6,v7,rfl,sl,sb⟩;unfold p8;walk_at "rd"
  exact⟨st,rfl,by rw[sl,Zab,ZaB],sb⟩
theorem VH{w h:Int}(sz:Sz w h):(1*2^(w*h).toNat-1:Int)=((CW w h:Nat):Int):=by
 unfold CW;rw[sz.nat.1];have:0<2^(w*h).toNat:=Zc9 (by decide)
 rw[Int.one_mul,show((2:Int)^(w*h).toNat)=((2^(w*h).toNat:Nat):Int) by norm_cast]
 omega
theorem VJ(a b c:List PV):ur (a++(b++c)) (some (a.length:Int)) (some ((a.length+b.length:Nat):Int))=b:=by
 unfold ur;rw[HT.Mr,HT.Mr,Nat.min_eq_left (by simp),Nat.min_eq_left (by simp),List.drop_left,Zcs,List.take_left]
theorem VL(n m:Nat):(n:Int)-((n &&& m:Nat):Int)=(yS n m:Nat):=by
 have:=Ce n (n &&& m);rw[<-ZcW,Nat.and_self] at this;unfold yS;omega
theorem WF{w h:Int}{st:List Nat}{bl:Nat->Nat}(hs:∀ j,st.getD j 0<2^(w.toNat*h.toNat)):∀ k b,Vk w h st bl k b<2^(w.toNat*h.toNat)
 |0,b=>by show 2^(w.toNat*h.toNat)-1<_;have:=Zc9 (n:=w.toNat*h.toNat) (show 0<2 by decide);omega
 |k+1,b=>by
  show(if _ then _ else _)<_
  by_cases e:b=(bl k:Nat)
  ·rw[Zam e];exact hs k
  ·rw[Zal e];exact WF hs k b
theorem Yp(n m:Nat):yS n m<=n:=by
 have:=Ce n (n &&& m);rw[<-ZcW,Nat.and_self] at this;unfold yS;have:n &&& m<=n:=Nat.and_le_left;omega
theorem law_main(ns:List Int)(hn:ns.length<=63):El [.lst (ns.map .int)]=some (.ok (.bl true)):=by
 obtain⟨c1,e1⟩:=yc ns 1 (by decide)
 obtain⟨c2,e2⟩:=yc ns 2 (by decide)
 obtain⟨w,h,es,sz,w8,h8⟩:=VG c1;obtain⟨q,eq,q0,q1⟩:=iJ c2 1 (by decide)
 have e1:dD [.lst (ns.map .int),.int 1]=_:=e1;have e2:dD [.lst (ns.map .int),.int 2]=_:=e2;have eq:bI [.int c2,.int 1]=_:=eq;have m0:=Za9 q (b:=8) (by decide)
 have m1:=ZaU q (b:=8) (by decide)
 obtain⟨st,et,sl,sb⟩:=Qm ns sz (1+q%8).toNat (by lia)
 rw[Zbv (by lia)] at et
 have hl:st.length<=8:=by lia
 have hs:∀ j,st.getD j 0<2^(w.toNat*h.toNat):=λj=>by
  by_cases hj:j<st.length
  ·rw[Zao,Zae hj];exact sb _ (ZbY hj)
  ·rw[Zao,ZaQ (by lia)];exact Zc9 (by decide)
 obtain⟨bl,Sf,ep,hS⟩:=Yo sz w8 h8 hl;have gs:∀ {j:Nat},j<st.length->atI (II.aZ st) (j:Int)=some (.int ((st.getD j 0:Nat):Int)):=λ{j} hj=>II.qX (by rw[Zao,Zae hj];rfl)
 have ln:(II.aZ st).length=st.length:=Zab _;have pl:=yg (bl:=bl) (λk=>(hS k).len);generalize eP:fY bl Sf st.length=P at ep
 have hm:=sz.mul;refine iG (x:=N5 (startR [.lst (ns.map .int)] 11)) ?_;unfold N5;rw[show startR [.lst (ns.map .int)] 11=[some (.sh (.lst (ns.map .int))),none,none,none,none,none,none,none,none,none,none,none] from rfl];walk_at "rd"
 rw[e1];walk_at "rd"
 rw[es];walk_at "rd"
 rw[e2];walk_at "rd"
 rw[eq];walk_at "rd"
 rw[et];walk_at "rd"
 rw[ep];walk_at "rd"
 rw[ln,II.sy];refine⟨by decide,by lia,by lia,?_⟩
 refine dJ (λk Z=>∃ (kv:List (Key×PV)) (v6 v7 v8 v9 v10 v11:Option Sl),Z=[some (.sh (.lst (ns.map .int))),some (.sh (.tup [.int w,.int h])),some (.sh (.lst (II.aZ st))),some (.sh (.lst P)),some (.ow (.dk kv)),some (.sh (.int ((fY bl Sf k).length:Nat))),v6,v7,v8,v9,v10,v11]/\kv.length<=k/\∀ b:Int,(cI kv (.inl b)).getD (.int (CW w h:Nat))=.int (Vk w h st bl k b:Nat)) ⟨[],none,none,none,none,none,none,rfl,Zan _,λ_=>rfl⟩ ?_ ?_
 ·rintro k x Z hx ⟨kv,v6,v7,v8,v9,v10,v11,rfl,h1,h2⟩;have kl:k<st.length:=by have:=(Zad.mp hx).1;rw[Zab,ZaB] at this;exact this
  rw[Zac,Zbh kl] at hx;cases hx;obtain⟨r,er⟩:=JT (bl:=bl) (Sf:=Sf) kl;rw[eP] at er;have lP:P.length<=512:=by rw[<-eP];have:=pl st.length;lia
  have lS:=(hS k).len;obtain⟨T,eS⟩:=(hS k).few;have atC:∀ {i:Nat}{s:Sk},(Sf k)[i]?=some s->atI P (((fY bl Sf k).length+i:Nat):Int)=some (cdP (bl k) s):=λ{i s} hi=>by
   have il:=(Zad.mp hi).1;refine Jv ?_;rw[er,Zap (by lia),Zcs]
   unfold Ci;rw[Zag (by rw[Zas,Zab];lia),Zag (by rw[Zab];exact il),Zac,hi];rfl
  have atP:atI P (((fY bl Sf k).length+(Sf k).length:Nat):Int)=some (pdP (bl k) k):=by
   refine Jv ?_;rw[er,Zap (by lia),Zcs]
   unfold Ci;rw[Zag (by rw[Zas,Zab];exact Zcz _),Zap (by rw[Zab];exact Zan _),Zab,Zcm];rfl
  have lt:(fY bl Sf k).length+(Sf k).length<P.length:=by
   rw[er];unfold Ci;rw[Zas,Zas,Zas,Zab];show _<_+(_+1+_)
   lia
  unfold NT;walk_at "rd"
  refine my (n:=599) (λm Z=>∃ i:Nat,Z=[some (.sh (.lst (ns.map .int))),some (.sh (.tup [.int w,.int h])),some (.sh (.lst (II.aZ st))),some (.sh (.lst P)),some (.ow (.dk kv)),some (.sh (.int ((fY bl Sf k).length+i:Nat))),some (.sh (.int (k:Nat))),some (.sh (.int ((fY bl Sf k).length:Nat))),v8,v9,v10,v11]/\m+i=599/\i<=(Sf k).length) ⟨0,rfl,rfl,Za4 _⟩ ?_;rintro m Z ⟨i,rfl,hmi,il⟩;walk_at "rd"
  rw[Zam (by lia)]
  by_cases e:i<(Sf k).length
  ·refine⟨_,atC (Zae e),?_⟩;unfold cdP;walk_at "rd"
   refine⟨by lia,?_⟩
   unfold NB;walk_at "rd"
   exact⟨i+1,by rw[show(((fY bl Sf k).length+(i+1):Nat):Int)=(((fY bl Sf k).length+i:Nat):Int)+1 by lia],by lia,e⟩
  ·have e:i=(Sf k).length:=by lia
   subst e;refine⟨_,atP,?_⟩;unfold pdP;walk_at "rd"
   rw[Zal (by decide +kernel)]
   unfold NQ;walk_at "rd"
   rw[Zal (by lia)]
   refine⟨_,atP,?_⟩;unfold pdP;walk_at "rd"
   refine⟨_,atP,?_⟩;unfold pdP;walk_at "rd"
   unfold NP;walk_at "rd"
   refine⟨_,atP,?_⟩;unfold pdP;walk_at "rd"
   rw[VH sz,h2];refine⟨.inl ⟨by have:=sz.w0;have:=sz.w1;lia,by have:=sz.w0;have:=sz.w1;lia⟩,by lia,by lia,by decide,_,gs kl,?_⟩
   rw[tv_and',j7,tv_sub,VL];refine⟨_,gs kl,?_⟩;have ec:ur P (some ((fY bl Sf k).length:Int)) (some (((fY bl Sf k).length+(Sf k).length:Nat):Int))=(Sf k).map (cdP (bl k)):=by
    have:=VJ (fY bl Sf k) ((Sf k).map (cdP (bl k))) ([pdP (bl k) k]++r);rw[Zab] at this;rw[er];unfold Ci;rw[Zbc];exact this
   obtain⟨F,eF,hF⟩:=T6 sz (b:=bl k) (hS k) (Zbn (Yp _ _) (WF hs k _));rw[ec,eF,tv_some,Zal (by intro z;cases z),tv_and',j7,hF]
   refine⟨true,Jy _ _,?_⟩;rw[Zal (by decide)]
   refine⟨_,gs kl,?_⟩;rw[eS,tv_some];walk_at "rd"
   rw[Zab,Zal (by lia)]
   unfold NK;walk_at "rd"
   rw[show((fY bl Sf (k+1)).length:Int)=(((fY bl Sf k).length+(Sf k).length:Nat):Int)+1 by
     show((fY bl Sf k++Ci bl Sf k).length:Int)=_
     unfold Ci;rw[Zas,Zas,Zab];show(((fY bl Sf k).length+((Sf k).length+1):Nat):Int)=_
     lia]
   refine⟨_,gs kl,_,by rw[xT,Zam (bY (by lia))],gY kv (.inl ((bl k:Nat):Int)) _,_,_,_,_,_,_,rfl,ZaI (qK _ _ kv) (by lia),λb=>?_⟩
   rw[oK];show _=PV.int ((if b=(bl k:Nat) then st.getD k 0 else Vk w h st bl k b:Nat):Int)
   by_cases e:b=(bl k:Nat)
   ·subst e;rw[Zam rfl,Zam rfl];rfl
   ·rw[Zal (by intro z;exact e (Zb3 z)),Zal e];exact h2 b
 ·rintro Z ⟨kv,v6,v7,v8,v9,v10,v11,rfl,h1,h2⟩;rw[Zab,ZaB,eP];unfold NZ;walk_at "rd"
def top(i:Nat):Stmt:=PySem.Challenge.pw_lostblock_k36_whole_plan_by_fewest_strok.main.body.getD i (.Pass ⟨0,0,0,0⟩)
def eD(P:Params)(x:Str)(t:Tok)(v:Value):DictEntry:={ hash:=PyData.keyHash P x,key:=.str x t,val:=v }
def fO(n:Str)(i:Nat)(pm:Value)(c:Nat):Obj:={ cls:=.type "function",data:=.func (fnOf n n (bB (top i)) (bw (top i)) (aG (top i)) .none .none .none pm none (.ref c) .none) }
def cO(n:Str)(t1 t2 t3:Tok)(l k:Int)(a:Nat)(m:Int)(b:Nat)(u v:Value)(c:Nat)(z:Int)(t4:Tok):Obj:={ cls:=.type "code",data:=.fields #[.str n t1,.str n t2,.str "/claim/cut.py" t3,.int l 0,.int k 0,.int 0 0,.int 0 0,.int 3 0,.ref a,.bool true,.int m 0,.ref b,.none,u,v,.ref c,.int z 0,.int l 0,.str "/claim/cut.py" t4] }
def KK:Params->Frag:=λP=>(nat_lit 3,{ cls:=.type "dict",data:=.dict #[eD P "__name__" 165 (.str "law_lostblock_k36_whole_plan_by_fewest_strok" 479),eD P "__doc__" 166 .none,eD P "__package__" 167 .none,eD P "__loader__" 168 (.builtin "__main__.__loader__#opaque"),eD P "__spec__" 169 .none,eD P "__annotations__" 170 (.ref 6),eD P "__builtins__" 171 (.ref 4),eD P "__file__" 173 (.str "/claim/cut.py" 172),eD P "__cached__" 174 .none,eD P "BlockError" 206 (.ref 24),eD P "Kept" 233 (.ref 44),eD P "is_whole" 242 (.ref 53),eD P "place_of" 250 (.ref 60),eD P "has_cell" 259 (.ref 67),eD P "all_cells" 265 (.ref 72),eD P "all_of" 272 (.ref 79),eD P "set_of" 282 (.ref 86),eD P "cells_of" 288 (.ref 91),eD P "within" 296 (.ref 98),eD P "walked" 312 (.ref 105),eD P "pair_anew" 325 (.ref 112),eD P "most_pairs" 336 (.ref 119),eD P "short_of_givers" 342 (.ref 124),eD P "states_ahead" 350 (.ref 129),eD P "chains_by" 361 (.ref 136),eD P "fewest_blocks" 367 (.ref 141),eD P "ROW" 371 (.str "row" 370),eD P "COLUMN" 373 (.str "column" 372),eD P "is_stroke" 379 (.ref 146),eD P "lines_of" 387 (.ref 153),eD P "length_of" 395 (.ref 160),eD P "lies_on" 403 (.ref 167),eD P "stroke_cells" 409 (.ref 172),eD P "cells_cut" 417 (.ref 179),eD P "longest_strokes" 423 (.ref 184),eD P "longest_by_cell" 436 (.ref 191),eD P "crossings" 449 (.ref 198),eD P "fewest_strokes" 455 (.ref 203),eD P "CUT" 459 (.str "cut" 458),eD P "PRINT" 461 (.str "print" 460),eD P "blocks_by_state" 472 (.ref 210),eD P "plan_of" 478 (.ref 215),eD P "_law_cell" 489 (.ref 222),eD P "_law_mixed" 498 (.ref 229),eD P "_law_size" 506 (.ref 236),eD P "_law_set" 519 (.ref 243),eD P "_law_states" 533 (.ref 250),eD P "_law_cuts" 545 (.ref 257),eD P "law" 563 (.ref 264)] 49 })::(nat_lit 52,cO "is_whole" 236 237 238 10 1 47 181 48 (.ref 49) (.ref 50) 51 240 241)::(nat_lit 53,fO "is_whole" 4 (.str "lostblock.boards" 234) 52)::(nat_lit 59,cO "place_of" 243 244 245 12 2 54 181 55 (.ref 56) (.ref 57) 58 248 249)::(nat_lit 60,fO "place_of" 5 (.str "lostblock.boards" 234) 59)::(nat_lit 66,cO "has_cell" 251 252 253 14 3 61 181 62 (.ref 63) (.ref 64) 65 257 258)::(nat_lit 67,fO "has_cell" 6 (.str "lostblock.boards" 234) 66)::(nat_lit 71,cO "all_cells" 260 261 262 16 1 68 181 69 .none .none 70 263 264)::(nat_lit 72,fO "all_cells" 7 (.str "lostblock.boards" 234) 71)::(nat_lit 78,cO "all_of" 266 267 268 18 1 73 181 74 (.ref 75) (.ref 76) 77 270 271)::(nat_lit 79,fO "all_of" 8 (.str "lostblock.boards" 234) 78)::(nat_lit 85,cO "set_of" 273 274 275 20 2 80 181 81 (.ref 82) (.ref 83) 84 280 281)::(nat_lit 86,fO "set_of" 9 (.str "lostblock.boards" 234) 85)::(nat_lit 90,cO "cells_of" 283 284 285 25 2 87 181 88 .none .none 89 286 287)::(nat_lit 91,fO "cells_of" 10 (.str "lostblock.boards" 234) 90)::(nat_lit 97,cO "within" 289 290 291 27 2 92 181 93 (.ref 94) (.ref 95) 96 294 295)::(nat_lit 98,fO "within" 11 (.str "lostblock.boards" 234) 97)::(nat_lit 104,cO "walked" 299 300 301 30 3 99 181 100 (.ref 101) (.ref 102) 103 310 311)::(nat_lit 105,fO "walked" 13 (.str "lostblock.matching" 297) 104)::(nat_lit 111,cO "pair_anew" 313 314 315 45 4 106 181 107 (.ref 108) (.ref 109) 110 323 324)::(nat_lit 112,fO "pair_anew" 14 (.str "lostblock.matching" 297) 111)::(nat_lit 118,cO "most_pairs" 326 327 328 53 1 113 181 114 (.ref 115) (.ref 116) 117 334 335)::(nat_lit 119,fO "most_pairs" 15 (.str "lostblock.matching" 297) 118)::(nat_lit 123,cO "short_of_givers" 337 338 339 60 2 120 181 121 .none .none 122 340 341)::(nat_lit 124,fO "short_of_givers" 16 (.str "lostblock.matching" 297) 123)::(nat_lit 128,cO "states_ahead" 345 346 347 65 2 125 181 126 .none .none 127 348 349)::(nat_lit 129,fO "states_ahead" 18 (.str "lostblock.chains" 343) 128)::(nat_lit 135,cO "chains_by" 351 352 353 67 2 130 181 131 (.ref 132) (.ref 133) 134 359 360)::(nat_lit 136,fO "chains_by" 19 (.str "lostblock.chains" 343) 135)::(nat_lit 140,cO "fewest_blocks" 362 363 364 78 1 137 181 138 .none .none 139 365 366)::(nat_lit 141,fO "fewest_blocks" 20 (.str "lostblock.chains" 343) 140)::(nat_lit 145,cO "is_stroke" 374 375 376 87 1 142 181 143 .none .none 144 377 378)::(nat_lit 146,fO "is_stroke" 24 (.str "lostblock.strokes" 368) 145)::(nat_lit 152,cO "lines_of" 380 381 382 93 2 147 181 148 (.ref 149) (.ref 150) 151 385 386)::(nat_lit 153,fO "lines_of" 25 (.str "lostblock.strokes" 368) 152)::(nat_lit 159,cO "length_of" 388 389 390 95 2 154 181 155 (.ref 156) (.ref 157) 158 393 394)::(nat_lit 160,fO "length_of" 26 (.str "lostblock.strokes" 368) 159)::(nat_lit 166,cO "lies_on" 396 397 398 97 2 161 181 162 (.ref 163) (.ref 164) 165 401 402)::(nat_lit 167,fO "lies_on" 27 (.str "lostblock.strokes" 368) 166)::(nat_lit 171,cO "stroke_cells" 404 405 406 101 1 168 181 169 .none .none 170 407 408)::(nat_lit 172,fO "stroke_cells" 28 (.str "lostblock.strokes" 368) 171)::(nat_lit 178,cO "cells_cut" 410 411 412 105 2 173 181 174 (.ref 175) (.ref 176) 177 415 416)::(nat_lit 179,fO "cells_cut" 29 (.str "lostblock.strokes" 368) 178)::(nat_lit 183,cO "longest_strokes" 418 419 420 107 4 180 181 181 .none .none 182 421 422)::(nat_lit 184,fO "longest_strokes" 30 (.str "lostblock.strokes" 368) 183)::(nat_lit 190,cO "longest_by_cell" 424 425 426 112 3 185 181 186 (.ref 187) (.ref 188) 189 434 435)::(nat_lit 191,fO "longest_by_cell" 31 (.str "lostblock.strokes" 368) 190)::(nat_lit 197,cO "crossings" 437 438 439 119 3 192 181 193 (.ref 194) (.ref 195) 196 447 448)::(nat_lit 198,fO "crossings" 32 (.str "lostblock.strokes" 368) 197)::(nat_lit 202,cO "fewest_strokes" 450 451 452 126 3 199 181 200 .none .none 201 453 454)::(nat_lit 203,fO "fewest_strokes" 33 (.str "lostblock.strokes" 368) 202)::(nat_lit 209,cO "blocks_by_state" 462 463 464 139 1 204 181 205 (.ref 206) (.ref 207) 208 470 471)::(nat_lit 210,fO "blocks_by_state" 37 (.str "lostblock.plans" 456) 209)::(nat_lit 214,cO "plan_of" 473 474 475 145 2 211 181 212 .none .none 213 476 477)::(nat_lit 215,fO "plan_of" 38 (.str "lostblock.plans" 456) 214)::(nat_lit 221,cO "_law_cell" 481 482 483 157 2 216 181 217 (.ref 218) (.ref 219) 220 487 488)::(nat_lit 222,fO "_law_cell" 40 (.str "law_lostblock_k36_whole_plan_by_fewest_strok" 479) 221)::(nat_lit 228,cO "_law_mixed" 490 491 492 164 2 223 181 224 (.ref 225) (.ref 226) 227 496 497)::(nat_lit 229,fO "_law_mixed" 41 (.str "law_lostblock_k36_whole_plan_by_fewest_strok" 479) 228)::(nat_lit 235,cO "_law_size" 499 500 501 170 1 230 181 231 (.ref 232) (.ref 233) 234 504 505)::(nat_lit 236,fO "_law_size" 42 (.str "law_lostblock_k36_whole_plan_by_fewest_strok" 479) 235)::(nat_lit 242,cO "_law_set" 507 508 509 175 3 237 181 238 (.ref 239) (.ref 240) 241 517 518)::(nat_lit 243,fO "_law_set" 43 (.str "law_lostblock_k36_whole_plan_by_fewest_strok" 479) 242)::(nat_lit 249,cO "_law_states" 520 521 522 187 3 244 181 245 (.ref 246) (.ref 247) 248 531 532)::(nat_lit 250,fO "_law_states" 44 (.str "law_lostblock_k36_whole_plan_by_fewest_strok" 479) 249)::(nat_lit 256,cO "_law_cuts" 534 535 536 199 4 251 181 252 (.ref 253) (.ref 254) 255 543 544)::(nat_lit 257,fO "_law_cuts" 45 (.str "law_lostblock_k36_whole_plan_by_fewest_strok" 479) 256)::(nat_lit 263,cO "law" 546 547 548 208 1 258 181 259 (.ref 260) (.ref 261) 262 561 562)::(nat_lit 264,fO "law" 46 (.str "law_lostblock_k36_whole_plan_by_fewest_strok" 479) 263)::[]
structure Txt(mg:Str->Option Value):Prop where
 tt:True
 Zt:mg "all"=none
 Ys:mg "bool"=none
 LR:mg "dict"=none
 qZ:mg "enumerate"=none
 Zu:mg "int"=none
 jC:mg "isinstance"=none
 lH:mg "len"=none
 T8:mg "list"=none
 jQ:mg "range"=none
 q9:mg "sorted"=none
 Zv:mg "str"=none
 Ol:mg "tuple"=none
 Zw:mg "zip"=none
 J8:∃ t,mg "COLUMN"=some (.str "column" t)
 Zx:∃ t,mg "CUT"=some (.str "cut" t)
 VM:∃ t,mg "PRINT"=some (.str "print" t)
 J9:∃ t,mg "ROW"=some (.str "row" t)
section
seal PE PA PS PSs PG PGs PI PPs MJ MT MA MAL MO MS MG MGs MI
variable{P:Program}{w:World}{K:Frag}{mg:Str->Option Value}{base:Heap}
theorem JV:bu ["thing"] ["thing"] (aG (top 4)):=by walk_at "s"
theorem JW(T:Txt mg)(D:bj K mg "is_whole" (top 4) ["thing"]):FnAt P w K mg base "is_whole" 1 ["thing"] (spM K XR0 pJ):=by
 refine D.ok JV (λvs H Q E h=>dh h λps r e=>match ps,e with|[_],_=>rfl) (λf cdv A outer s H vs Q E hr h=>?_)
 refine⟨_,(aO (bA (Ez (bK qC rfl T.jC (by decide +kernel) (ak (pv 0) (ak (HB rfl T.Zu (n:="int") (by decide +kernel)) aC))) (Kq (WR (bK qC rfl T.jC (by decide +kernel) (ak (pv 0) (ak (HB rfl T.Ys (n:="bool") (by decide +kernel)) aC)))))))),dg (b:=pI) (k:=1) (n:=0) rfl (λps r e=>match ps,e with|[_],e=>⟨rfl,e⟩) h λio H0 F0 hio=>?_⟩
 exact(cG (Fp (z6 aH.up RK (bD 0) HQ) (Xo (z6 aH.up RK (bD 0) HQ))))
theorem JX:bu ["size","cell"] ["size","cell"] (aG (top 5)):=by walk_at "s"
theorem JZ(T:Txt mg)(D:bj K mg "place_of" (top 5) ["size","cell"]):FnAt P w K mg base "place_of" 1 ["size","cell"] (spM K XR0 jG):=by
 refine D.ok JX (λvs H Q E h=>dh h λps r e=>match ps,e with|[_,_],_=>rfl) (λf cdv A outer s H vs Q E hr h=>?_)
 refine⟨_,(aO (bA (aW cH (aW dX (bc aX (pv 1) aA (λ_ _=>rfl)) (bc aX (pv 0) aA (λ_ _=>rfl))) (bc aX (pv 1) aA (λ_ _=>rfl))))),dg (b:=uE) (k:=2) (n:=0) rfl (λps r e=>match ps,e with|[_,_],e=>⟨rfl,e⟩) h λio H0 F0 hio=>?_⟩
 exact(cG (au aF.up eU (au aF.up jU (au aF.up b7 (aj 1) aB) (au aF.up b7 (aj 0) aB)) (au aF.up b7 (aj 1) aB)))
theorem J0:bu ["size","some","cell"] ["size","some","cell"] (aG (top 6)):=by walk_at "s"
theorem J1(T:Txt mg)(D:bj K mg "has_cell" (top 6) ["size","some","cell"])(uP:FnAt P w K mg base "place_of" 1 ["size","cell"] (spM K XR0 jG)):FnAt P w K mg base "has_cell" 2 ["size","some","cell"] (spM K XR0 jH):=by
 refine D.ok J0 (λvs H Q E h=>dh h λps r e=>match ps,e with|[_,_,_],_=>rfl) (λf cdv A outer s H vs Q E hr h=>?_)
 refine⟨_,(aO (bA (rB (kh hr) (aW oY (aW QG (pv 1) (aQ uP (hr.mono (by decide)) rfl (ak (pv 0) (ak (pv 2) aC)))) aA) aA (bT _)))),dg (b:=uF) (k:=3) (n:=0) rfl (λps r e=>match ps,e with|[_,_,_],e=>⟨rfl,e⟩) h λio H0 F0 hio=>?_⟩
 exact(cG (au aH.up yP (bO (au aF.up vC (au aF.up Wf (aj 1) (bH (ao (aj 0) (ao (aj 2) aP)))) aB)) (bO aB)))
theorem GP:bu ["size"] ["size"] (aG (top 7)):=by walk_at "s"
theorem GQ(T:Txt mg)(D:bj K mg "all_cells" (top 7) ["size"]):FnAt P w K mg base "all_cells" 1 ["size"] (spO K XR0 m6):=by
 refine D.ok GP (λvs H Q E h=>jk h λps r e=>match ps,e with|[_],_=>rfl) (λf cdv A outer s H vs Q E hr h=>?_)
 refine⟨_,(aO (bA (d9 ["place","size"] [none,some 0] rfl (iQ rfl T.jQ (ak (aW dX (bc aX (pv 0) aA (λ_ _=>rfl)) (bc aX (pv 0) aA (λ_ _=>rfl))) aC)) (λ_ _ _ _ _=>(cj (i:=0) (by decide +kernel) rfl rfl)) (λ_ _ _ _ _=>o7) (λ_ _ _ _ _=>(dH (ak (aW eY (pvl 0) (bc jN (pvf 1) aA (λ_ _=>rfl))) (ak (aW zb (pvl 0) (bc jN (pvf 1) aA (λ_ _=>rfl))) aC))))))),jj (b:=qL) (k:=1) (n:=0) rfl (λps r e=>match ps,e with|[_],e=>⟨rfl,e⟩) h λio H0 F0 hio=>?_⟩
 exact(rF (ji (mX (ao (au aF.up jU (au aF.up b7 (aj 0) aB) (au aF.up b7 (aj 0) aB)) aP)) (aL 0) (cP 0) pA (fK (ao (au aF.up jh (aj 0) (au aF.up b7 (aj 1) aB)) (ao (au aF.up M4 (aj 0) (au aF.up b7 (aj 1) aB)) aP)))))
theorem Qn:bu ["size"] ["size"] (aG (top 8)):=by walk_at "s"
theorem Qo(T:Txt mg)(D:bj K mg "all_of" (top 8) ["size"]):FnAt P w K mg base "all_of" 1 ["size"] (spM K XR0 wB):=by
 refine D.ok Qn (λvs H Q E h=>dh h λps r e=>match ps,e with|[_],_=>rfl) (λf cdv A outer s H vs Q E hr h=>?_)
 refine⟨_,(aO (bA (aW uf (aW zG aA (aW dX (bc aX (pv 0) aA (λ_ _=>rfl)) (bc aX (pv 0) aA (λ_ _=>rfl)))) aA))),dg (b:=wA) (k:=1) (n:=0) rfl (λps r e=>match ps,e with|[_],e=>⟨rfl,e⟩) h λio H0 F0 hio=>?_⟩
 exact(cG (au aF.up zX (au aF.up Ib aB (au aF.up jU (au aF.up b7 (aj 0) aB) (au aF.up b7 (aj 0) aB))) aB))
theorem sE:bu ["size","cells","some","cell"] ["size","cells"] (aG (top 9)):=by walk_at "s"
theorem Qp(T:Txt mg)(D:bj K mg "set_of" (top 9) ["size","cells"])(uP:FnAt P w K mg base "place_of" 1 ["size","cell"] (spM K XR0 jG)):FnAt P w K mg base "set_of" 2 ["size","cells"] (spM K XR0 oM):=by
 refine D.ok sE (λvs H Q E h=>dh h λps r e=>match ps,e with|[_,_],_=>rfl) (λf cdv A outer s H vs Q E hr h=>?_)
 refine⟨_,(aq (aR (i:=2) sE.nd rfl (Or.inl rfl) aA)
   (aq (gf ZaM rfl (iw (pv 1)) (cZ (i:=3) sE.nd rfl (Or.inl rfl))
    (aO (aR (i:=2) sE.nd rfl (Or.inl rfl) (aW V5 (pv 2) (aW zG aA (aQ uP (hr.mono (by decide)) rfl (ak (pv 0) (ak (pv 3) aC))))))))
   (aO (bA (pv 2))))),dg (b:=Bt) (k:=2) (n:=2) rfl (λps r e=>match ps,e with|[_,_],e=>⟨rfl,e⟩) h λio H0 F0 hio=>?_⟩
 exact(aM (bh aB (aL 2))
   (aM (iD (iy (aj 1)) (aL 3)
    (bh (au aF.up Y8 (aj 2) (au aF.up Ib aB (bH (ao (aj 0) (ao (aj 3) aP))))) (aL 2)))
   (cG (aj 2))))
theorem J2:bu ["size","some"] ["size","some"] (aG (top 10)):=by walk_at "s"
theorem J3(T:Txt mg)(D:bj K mg "cells_of" (top 10) ["size","some"])(Ka:FnAt P w K mg base "all_cells" 1 ["size"] (spO K XR0 m6))(uQ:FnAt P w K mg base "has_cell" 2 ["size","some","cell"] (spM K XR0 jH)):FnAt P w K mg base "cells_of" 3 ["size","some"] (spO K XR0 iH):=by
 refine D.ok J2 (λvs H Q E h=>jk h λps r e=>match ps,e with|[_,_],_=>rfl) (λf cdv A outer s H vs Q E hr h=>?_)
 refine⟨_,(aO (bA (d9 ["cell","size","some"] [none,some 0,some 1] rfl (iw (aQ Ka (hr.mono (by decide)) rfl (ak (pv 0) aC))) (λ_ _ _ _ _=>(cj (i:=0) (by decide +kernel) rfl rfl)) (λ_ _ _ _ _=>(ql (qg (aQ uQ (hr.mono (by decide)) (glc rfl) (ak (pvf 1) (ak (pvf 2) (ak (pvl 0) aC))))))) (λ_ _ _ _ _=>(pvl 0))))),jj (b:=uG) (k:=2) (n:=0) rfl (λps r e=>match ps,e with|[_,_],e=>⟨rfl,e⟩) h λio H0 F0 hio=>?_⟩
 exact(rF (ji (iy (bZ (eE (ao (aj 0) aP)))) (aL 0) (cP 0) (qt (bH (ao (aj 1) (ao (aj 2) (ao (aj 0) aP))))) (aj 0)))
theorem Qq:bu ["one","other"] ["one","other"] (aG (top 11)):=by walk_at "s"
theorem Qs(T:Txt mg)(D:bj K mg "within" (top 11) ["one","other"]):FnAt P w K mg base "within" 1 ["one","other"] (spM K XR0 wD):=by
 refine D.ok Qq (λvs H Q E h=>dh h λps r e=>match ps,e with|[_,_],_=>rfl) (λf cdv A outer s H vs Q E hr h=>?_)
 refine⟨_,(aO (bA (rB (kh hr) (aW oY (pv 0) (pv 1)) (pv 0) (bT _)))),dg (b:=wC) (k:=2) (n:=0) rfl (λps r e=>match ps,e with|[_,_],e=>⟨rfl,e⟩) h λio H0 F0 hio=>?_⟩
 exact(cG (au aH.up yP (bO (au aF.up vC (aj 0) (aj 1))) (bD 0)))
theorem jK:bu ["wishes","asker_of","starts","askers","came_by","place","asker","giver"] ["wishes","asker_of","starts"] (aG (top 13)):=by walk_at "s"
theorem Qt(T:Txt mg)(D:bj K mg "walked" (top 13) ["wishes","asker_of","starts"]):FnAt P w K mg base "walked" 1 ["wishes","asker_of","starts"] (spD K XR0 mz):=by
 refine D.ok jK (λvs H Q E h=>vP h λps r e=>match ps,e with|[_,_,_],_=>rfl) (λf cdv A outer s H vs Q E hr h=>?_)
 refine⟨_,(aq (aR (i:=3) jK.nd rfl (Or.inl rfl) (nW uZ rfl T.T8 (by decide +kernel) (ak (pv 2) aC)))
   (aq (aR (i:=4) jK.nd rfl (Or.inl rfl) qp)
   (aq (aR (i:=5) jK.nd rfl (Or.inl rfl) aA)
   (aq (qj ZaM (bz qy (pv 5) (bK du rfl T.lH (by decide +kernel) (ak (pv 3) aC)) (bT _))
    (aq (aR (i:=6) jK.nd rfl (Or.inl rfl) (bc aX (pv 3) (pv 5) (λ_ _=>rfl)))
    (aq (gf ZaM rfl (iw (fB hr (pv 0) (pv 6) (λ_ _=>rfl))) (cZ (i:=7) jK.nd rfl (Or.inl rfl))
     (aq (gM (bz (K7 hr) (pv 7) (pv 4) (by with_unfolding_all rfl))
      (aO ym)
      cU)
     (aq (iu (jD hr) (pv 4) (pv 7) (pv 6) rfl)
     (aq (gM (bz (xM hr) (pv 7) (pv 1) (by with_unfolding_all rfl))
      (aO (bA (dH (ak (pv 7) (ak (pv 3) (ak (pv 4) aC))))))
      cU)
     (aO (jM (yr Za7 Zbf PySem.F.type_list_append iR (pv 3) (ak (fB hr (pv 1) (pv 7) (λ_ _=>rfl)) aC))))))))
    (aO (aR (i:=5) jK.nd rfl (Or.inl rfl) (aW cH (pv 5) aA))))))
   (aO (bA (dH (ak ud (ak (pv 3) (ak (pv 4) aC)))))))))),vO (b:=BL) (k:=3) (n:=5) rfl (λps r e=>match ps,e with|[_,_,_],e=>⟨rfl,e⟩) h λio H0 F0 hio=>?_⟩
 exact(aM (eG (i:=3) trivial (nM RL (jf 2)))
   (aM (eG (i:=4) trivial vK)
   (aM (bh aB (aL 5))
   (aM (zT 2000 (bx (au aF.up Ie (aj 5) (gk kZ (bD 3))))
    (aM (bh (au aV.up M5 (jf 3) (aj 5)) (aL 6))
    (aM (iD (iy (iz (bL 0) (aj 6))) (aL 7)
     (aM (gO (bx (au aF.up RQ (aj 7) (bL 4)))
      MK
      cW)
     (aM (mY (aj 6) (aj 7))
     (aM (gO (bx (au aF.up vJ (aj 7) (bL 1)))
      (wg (qJ (vM (aj 7)) (lN 3 hio (by decide) (lN 4 hio (by decide) vZ))))
      cW)
     (Ft (iz (bL 1) (aj 7)))))))
    (bh (au aF.up eU (aj 5) aB) (aL 5)))))
   (wg (qJ (vM ul) (lN 3 hio (by decide) (lN 4 hio (by decide) vZ))))))))
theorem jz:bu ["giver_of","asker_of","came_by","free","giver","asker","left"] ["giver_of","asker_of","came_by","free"] (aG (top 14)):=by walk_at "s"
theorem GR(T:Txt mg)(D:bj K mg "pair_anew" (top 14) ["giver_of","asker_of","came_by","free"]):FnAt P w K mg base "pair_anew" 1 ["giver_of","asker_of","came_by","free"] (Ar K gr):=by
 refine D.ok jz (λvs H Q E h=>Ea h λps r e=>match ps,e with|[_,_,_,_],_=>rfl) (λf cdv A outer s H vs Q E hr h=>?_)
 refine⟨_,(aq (aR (i:=4) jz.nd rfl (Or.inl rfl) (pv 3))
   (aO (qj ZaM (bz Mq (pv 4) ud (bT _))
    (aq (aR (i:=5) jz.nd rfl (Or.inl rfl) (fB hr (pv 2) (pv 4) (λ_ _=>rfl)))
    (aq (aR (i:=6) jz.nd rfl (Or.inl rfl) (DR hr (pv 0) (pv 5) ⟨rfl,rfl,rfl,rfl⟩))
    (aq (iu (jD hr) (pv 0) (pv 5) (pv 4) rfl)
    (aq (iu (jD hr) (pv 1) (pv 4) (pv 5) rfl)
    (aO (aR (i:=4) jz.nd rfl (Or.inl rfl) (pv 6)))))))))),DY (b:=jY) (k:=4) (n:=3) rfl (λps r e=>match ps,e with|[_,_,_,_],e=>⟨rfl,e⟩) h λa c H0 F0=>?_⟩
 exact(jO (mZ (aj 3) (jX 4 (by decide)))
   (Eb 2000 (bx (au aH.up Ru (bD 4) ul))
    (jO (mZ (iz (bL 2) (aj 4)) (jX 5 (by decide)))
    (jO (mZ (Im (bL 0) (aj 5)) (jX 6 (by decide)))
    (jO (vQ (aj 4) (aj 5))
    (jO (vQ (aj 5) (aj 4))
    (mZ (aj 6) (jX 4 (by decide)))))))))
theorem ir:bu ["wishes","giver_of","asker_of","asker","way"] ["wishes"] (aG (top 15)):=by walk_at "s"
theorem Dc(T:Txt mg)(D:bj K mg "most_pairs" (top 15) ["wishes"])(Ck:FnAt P w K mg base "walked" 1 ["wishes","asker_of","starts"] (spD K XR0 mz))(Kc:FnAt P w K mg base "pair_anew" 1 ["giver_of","asker_of","came_by","free"] (Ar K gr)):FnAt P w K mg base "most_pairs" 2 ["wishes"] (spO K XR0 jq):=by
 refine D.ok ir (λvs H Q E h=>jk h λps r e=>match ps,e with|[_],_=>rfl) (λf cdv A outer s H vs Q E hr h=>?_)
 refine⟨_,(aq (aR (i:=1) ir.nd rfl (Or.inl rfl) qp)
   (aq (aR (i:=2) ir.nd rfl (Or.inl rfl) qp)
   (aq (M9 0 (gf ZaM rfl (Bm (pv 0)) (cZ (i:=3) ir.nd rfl (Or.inl rfl))
    (aq (aR (i:=4) ir.nd rfl (Or.inl rfl) (aQ Ck (hr.mono (by decide)) rfl (ak (pv 0) (ak (pv 2) (ak (oZ (ak (pv 3) aC)) aC)))))
    (aO (jM (aQ Kc (hr.mono (by decide)) rfl (ak (pv 1) (ak (pv 2) (ak (bc aX (pv 4) aA (λ_ _=>rfl)) (ak (bc aX (pv 4) aA (λ_ _=>rfl)) aC))))))))))
   (aO (bA (pv 1)))))),jj (b:=pK) (k:=1) (n:=4) rfl (λps r e=>match ps,e with|[_],e=>⟨rfl,e⟩) h λio H0 F0 hio=>?_⟩
 exact(aM (eG (i:=1) trivial vK)
   (aM (eG (i:=2) trivial vK)
   (aM (Ng 0 (λ_ _=>Nh (xR 0) (aL 3)
    (aM (pD (i:=4) trivial (IW (oh (bD 0) (oh (bD 2) (oh (bO (bZ (qu (ao (aj 3) aP)))) Mz)))))
    (vY 4 (R6 (by decide) (ao (au aF.up b7 (aj 4) aB) (ao (au aF.up b7 (aj 4) aB) aP)))))))
   (ou 1 hio))))
theorem iM:bu ["wishes","giver_of","asker_of","way"] ["wishes","giver_of"] (aG (top 16)):=by walk_at "s"
theorem uK(T:Txt mg)(D:bj K mg "short_of_givers" (top 16) ["wishes","giver_of"])(Ck:FnAt P w K mg base "walked" 1 ["wishes","asker_of","starts"] (spD K XR0 mz)):FnAt P w K mg base "short_of_givers" 2 ["wishes","giver_of"] (spM K XR0 fP):=by
 refine D.ok iM (λvs H Q E h=>dh h λps r e=>match ps,e with|[_,_],_=>rfl) (λf cdv A outer s H vs Q E hr h=>?_)
 refine⟨_,(aq (aR (i:=2) iM.nd rfl (Or.inl rfl) (nW (K8 hr rfl) rfl T.LR (by decide +kernel) (ak (rJ 1 (d9 ["asker","giver"] [none,none] rfl (Ej (pv 1)) (λ_ _ _ _ _=>(vf (n:=2) rfl (dR (cj (i:=0) (by decide +kernel) rfl rfl) (dR (cj (i:=1) (by decide +kernel) rfl rfl) oW)))) (λ_ _ _ _ _=>o7) (λ_ _ _ _ _=>(dH (ak (pvl 1) (ak (pvl 0) aC)))))) aC)))
   (aq (aR (i:=3) iM.nd rfl (Or.inl rfl) (aQ Ck (hr.mono (by decide)) rfl (ak (pv 0) (ak (pv 2) (ak (rJ 0 (d9 ["asker","giver_of"] [none,some 1] rfl (Bm (pv 0)) (λ_ _ _ _ _=>(cj (i:=0) (by decide +kernel) rfl rfl)) (λ_ _ _ _ _=>(ql (bz (An hr) (pvl 0) (pvf 1) (by with_unfolding_all rfl)))) (λ_ _ _ _ _=>(pvl 0)))) aC)))))
   (aO (bA (dH (ak (bK tu rfl T.q9 (by decide +kernel) (ak (bc aX (pv 3) aA (λ_ _=>rfl)) aC)) (ak (bK (CJ rfl) rfl T.q9 (by decide +kernel) (ak (bc aX (pv 3) aA (λ_ _=>rfl)) aC)) aC))))))),dg (b:=jr) (k:=2) (n:=2) rfl (λps r e=>match ps,e with|[_,_],e=>⟨rfl,e⟩) h λio H0 F0 hio=>?_⟩
 exact(aM (bh (bZ (nM (Gd λ_ _ _=>U7) (lL (rM 1 (λ_ _=>iZ (Bo 1) (uo (dW (aL 0) (dW (aL 1) o9))) (zZ (gW (cP 0) (gW (cP 1) vH))) pA (fK (ao (aj 1) (ao (aj 0) aP)))))))) (aL 2))
   (aM (pD (i:=3) trivial (vN (ao (aj 0) (ao (aj 2) (ao (bZ (rM 0 (λ_ _=>iZ (xR 0) (aL 0) (cP 0) (bx (au aF.up vJ (aj 0) (bL 1))) (aj 0)))) aP)))))
   (vY 3 (cG (fK (ao (bZ (nM Nr (zc (au aF.up b7 (aj 3) aB)))) (ao (bZ (nM SX (Il (au aF.up b7 (aj 3) aB)))) aP)))))))
theorem gB:bu ["wishes","asker_of","starts","askers","came_by","place","asker","giver"] ["wishes","asker_of","starts"] (aG (top 13)):=by walk_at "s"
theorem J4(T:Txt mg)(D:bj K mg "walked" (top 13) ["wishes","asker_of","starts"]):FnAt P w K mg base "walked" 1 ["wishes","asker_of","starts"] (spD K XR0 iI):=by
 refine D.ok gB (λvs H Q E h=>vP h λps r e=>match ps,e with|[_,_,_],_=>rfl) (λf cdv A outer s H vs Q E hr h=>?_)
 refine⟨_,(aq (aR (i:=3) gB.nd rfl (Or.inl rfl) (nW uZ rfl T.T8 (by decide +kernel) (ak (pv 2) aC)))
   (aq (aR (i:=4) gB.nd rfl (Or.inl rfl) lX)
   (aq (aR (i:=5) gB.nd rfl (Or.inl rfl) aA)
   (aq (qj ZaM (bz qy (pv 5) (bK du rfl T.lH (by decide +kernel) (ak (pv 3) aC)) (bT _))
    (aq (aR (i:=6) gB.nd rfl (Or.inl rfl) (bc aX (pv 3) (pv 5) (λ_ _=>rfl)))
    (aq (gf ZaM rfl (iw (fB hr (pv 0) (pv 6) (λ_ _=>rfl))) (cZ (i:=7) gB.nd rfl (Or.inl rfl))
     (aq (gM (bz (K7 hr) (pv 7) (pv 4) (by with_unfolding_all rfl))
      (aO ym)
      cU)
     (aq (iu (jD hr) (pv 4) (pv 7) (pv 6) rfl)
     (aq (gM (bz (xM hr) (pv 7) (pv 1) (by with_unfolding_all rfl))
      (aO (bA (dH (ak (pv 7) (ak (pv 3) (ak (pv 4) aC))))))
      cU)
     (aO (jM (yr Za7 Zbf PySem.F.type_list_append iR (pv 3) (ak (fB hr (pv 1) (pv 7) (λ_ _=>rfl)) aC))))))))
    (aO (aR (i:=5) gB.nd rfl (Or.inl rfl) (aW cH (pv 5) aA))))))
   (aO (bA (dH (ak ud (ak (pv 3) (ak (pv 4) aC)))))))))),vO (b:=uH) (k:=3) (n:=5) rfl (λps r e=>match ps,e with|[_,_,_],e=>⟨rfl,e⟩) h λio H0 F0 hio=>?_⟩
 exact(aM (eG (i:=3) trivial (nM RL (jf 2)))
   (aM (eG (i:=4) trivial pB)
   (aM (bh aB (aL 5))
   (aM (zT 200 (bx (au aF.up Ie (aj 5) (gk kZ (bD 3))))
    (aM (bh (au aV.up M5 (jf 3) (aj 5)) (aL 6))
    (aM (iD (iy (iz (bL 0) (aj 6))) (aL 7)
     (aM (gO (bx (au aF.up RQ (aj 7) (bL 4)))
      MK
      cW)
     (aM (mY (aj 6) (aj 7))
     (aM (gO (bx (au aF.up vJ (aj 7) (bL 1)))
      (wg (qJ (vM (aj 7)) (lN 3 hio (by decide) (lN 4 hio (by decide) vZ))))
      cW)
     (Ft (iz (bL 1) (aj 7)))))))
    (bh (au aF.up eU (aj 5) aB) (aL 5)))))
   (wg (qJ (vM ul) (lN 3 hio (by decide) (lN 4 hio (by decide) vZ))))))))
theorem gC:bu ["giver_of","asker_of","came_by","free","giver","asker","left"] ["giver_of","asker_of","came_by","free"] (aG (top 14)):=by walk_at "s"
theorem Cj(T:Txt mg)(D:bj K mg "pair_anew" (top 14) ["giver_of","asker_of","came_by","free"]):FnAt P w K mg base "pair_anew" 1 ["giver_of","asker_of","came_by","free"] (Ar K d8):=by
 refine D.ok gC (λvs H Q E h=>Ea h λps r e=>match ps,e with|[_,_,_,_],_=>rfl) (λf cdv A outer s H vs Q E hr h=>?_)
 refine⟨_,(aq (aR (i:=4) gC.nd rfl (Or.inl rfl) (pv 3))
   (aO (qj ZaM (bz Mq (pv 4) ud (bT _))
    (aq (aR (i:=5) gC.nd rfl (Or.inl rfl) (fB hr (pv 2) (pv 4) (λ_ _=>rfl)))
    (aq (aR (i:=6) gC.nd rfl (Or.inl rfl) (DR hr (pv 0) (pv 5) ⟨rfl,rfl,rfl,rfl⟩))
    (aq (iu (jD hr) (pv 0) (pv 5) (pv 4) rfl)
    (aq (iu (jD hr) (pv 1) (pv 4) (pv 5) rfl)
    (aO (aR (i:=4) gC.nd rfl (Or.inl rfl) (pv 6)))))))))),DY (b:=ie) (k:=4) (n:=3) rfl (λps r e=>match ps,e with|[_,_,_,_],e=>⟨rfl,e⟩) h λa c H0 F0=>?_⟩
 exact(jO (mZ (aj 3) (jX 4 (by decide)))
   (Eb 200 (bx (au aH.up Ru (bD 4) ul))
    (jO (mZ (iz (bL 2) (aj 4)) (jX 5 (by decide)))
    (jO (mZ (Im (bL 0) (aj 5)) (jX 6 (by decide)))
    (jO (vQ (aj 4) (aj 5))
    (jO (vQ (aj 5) (aj 4))
    (mZ (aj 6) (jX 4 (by decide)))))))))
theorem fH:bu ["wishes","giver_of","asker_of","asker","way"] ["wishes"] (aG (top 15)):=by walk_at "s"
theorem yU(T:Txt mg)(D:bj K mg "most_pairs" (top 15) ["wishes"])(uR:FnAt P w K mg base "walked" 1 ["wishes","asker_of","starts"] (spD K XR0 iI))(De:FnAt P w K mg base "pair_anew" 1 ["giver_of","asker_of","came_by","free"] (Ar K d8)):FnAt P w K mg base "most_pairs" 2 ["wishes"] (spO K XR0 gw):=by
 refine D.ok fH (λvs H Q E h=>jk h λps r e=>match ps,e with|[_],_=>rfl) (λf cdv A outer s H vs Q E hr h=>?_)
 refine⟨_,(aq (aR (i:=1) fH.nd rfl (Or.inl rfl) lX)
   (aq (aR (i:=2) fH.nd rfl (Or.inl rfl) lX)
   (aq (M9 0 (gf ZaM rfl (Nb (pv 0)) (cZ (i:=3) fH.nd rfl (Or.inl rfl))
    (aq (aR (i:=4) fH.nd rfl (Or.inl rfl) (aQ uR (hr.mono (by decide)) rfl (ak (pv 0) (ak (pv 2) (ak (oZ (ak (pv 3) aC)) aC)))))
    (aO (jM (aQ De (hr.mono (by decide)) rfl (ak (pv 1) (ak (pv 2) (ak (bc aX (pv 4) aA (λ_ _=>rfl)) (ak (bc aX (pv 4) aA (λ_ _=>rfl)) aC))))))))))
   (aO (bA (pv 1)))))),jj (b:=mD) (k:=1) (n:=4) rfl (λps r e=>match ps,e with|[_],e=>⟨rfl,e⟩) h λio H0 F0 hio=>?_⟩
 exact(aM (eG (i:=1) trivial pB)
   (aM (eG (i:=2) trivial pB)
   (aM (Ng 0 (λ_ _=>Nh (Iz 0) (aL 3)
    (aM (pD (i:=4) trivial (IW (oh (bD 0) (oh (bD 2) (oh (bO (bZ (qu (ao (aj 3) aP)))) Mz)))))
    (vY 4 (R6 (by decide) (ao (au aF.up b7 (aj 4) aB) (ao (au aF.up b7 (aj 4) aB) aP)))))))
   (ou 1 hio))))
theorem gD:bu ["wishes","giver_of","asker_of","way"] ["wishes","giver_of"] (aG (top 16)):=by walk_at "s"
theorem qY(T:Txt mg)(D:bj K mg "short_of_givers" (top 16) ["wishes","giver_of"])(uR:FnAt P w K mg base "walked" 1 ["wishes","asker_of","starts"] (spD K XR0 iI)):FnAt P w K mg base "short_of_givers" 2 ["wishes","giver_of"] (spM K XR0 eO):=by
 refine D.ok gD (λvs H Q E h=>dh h λps r e=>match ps,e with|[_,_],_=>rfl) (λf cdv A outer s H vs Q E hr h=>?_)
 refine⟨_,(aq (aR (i:=2) gD.nd rfl (Or.inl rfl) (nW (Am hr rfl) rfl T.LR (by decide +kernel) (ak (rJ 1 (d9 ["asker","giver"] [none,none] rfl (R8 (pv 1)) (λ_ _ _ _ _=>(vf (n:=2) rfl (dR (cj (i:=0) (by decide +kernel) rfl rfl) (dR (cj (i:=1) (by decide +kernel) rfl rfl) oW)))) (λ_ _ _ _ _=>o7) (λ_ _ _ _ _=>(dH (ak (pvl 1) (ak (pvl 0) aC)))))) aC)))
   (aq (aR (i:=3) gD.nd rfl (Or.inl rfl) (aQ uR (hr.mono (by decide)) rfl (ak (pv 0) (ak (pv 2) (ak (rJ 0 (d9 ["asker","giver_of"] [none,some 1] rfl (Nb (pv 0)) (λ_ _ _ _ _=>(cj (i:=0) (by decide +kernel) rfl rfl)) (λ_ _ _ _ _=>(ql (bz (An hr) (pvl 0) (pvf 1) (by with_unfolding_all rfl)))) (λ_ _ _ _ _=>(pvl 0)))) aC)))))
   (aO (bA (dH (ak (bK IV rfl T.q9 (by decide +kernel) (ak (bc aX (pv 3) aA (λ_ _=>rfl)) aC)) (ak (bK (Gg rfl) rfl T.q9 (by decide +kernel) (ak (bc aX (pv 3) aA (λ_ _=>rfl)) aC)) aC))))))),dg (b:=gU) (k:=2) (n:=2) rfl (λps r e=>match ps,e with|[_,_],e=>⟨rfl,e⟩) h λio H0 F0 hio=>?_⟩
 exact(aM (bh (bZ (nM (Gd λ_ _ _=>M8) (lL (rM 1 (λ_ _=>iZ (Pz 1) (uo (dW (aL 0) (dW (aL 1) o9))) (zZ (gW (cP 0) (gW (cP 1) vH))) pA (fK (ao (aj 1) (ao (aj 0) aP)))))))) (aL 2))
   (aM (pD (i:=3) trivial (vN (ao (aj 0) (ao (aj 2) (ao (bZ (rM 0 (λ_ _=>iZ (Iz 0) (aL 0) (cP 0) (bx (au aF.up vJ (aj 0) (bL 1))) (aj 0)))) aP)))))
   (vY 3 (cG (fK (ao (bZ (nM XH (zc (au aF.up b7 (aj 3) aB)))) (ao (bZ (nM Vb (Il (au aF.up b7 (aj 3) aB)))) aP)))))))
theorem yV:bu ["states","number"] ["states","number"] (aG (top 18)):=by walk_at "s"
theorem yW(T:Txt mg)(D:bj K mg "states_ahead" (top 18) ["states","number"])(T9:FnAt P w K mg base "within" 1 ["one","other"] (spM K XR0 wD)):FnAt P w K mg base "states_ahead" 2 ["states","number"] (spO K XR0 ju):=by
 refine D.ok yV (λvs H Q E h=>jk h λps r e=>match ps,e with|[_,_],_=>rfl) (λf cdv A outer s H vs Q E hr h=>?_)
 refine⟨_,(aO (bA (d9 ["earlier","states","number"] [none,some 0,some 1] rfl (iQ rfl T.jQ (ak (pv 1) aC)) (λ_ _ _ _ _=>(cj (i:=0) (by decide +kernel) rfl rfl)) (λ_ _ _ _ _=>(ql (qg (aQ T9 (hr.mono (by decide)) (glc rfl) (ak (bc jN (pvf 1) (pvf 2) (λ_ _=>rfl)) (ak (bc jN (pvf 1) (pvl 0) (λ_ _=>rfl)) aC)))))) (λ_ _ _ _ _=>(pvl 0))))),jj (b:=jt) (k:=2) (n:=0) rfl (λps r e=>match ps,e with|[_,_],e=>⟨rfl,e⟩) h λio H0 F0 hio=>?_⟩
 exact(rF (ji (mX (ao (aj 1) aP)) (aL 0) (cP 0) (qt (bH (ao (au aF.up b7 (aj 1) (aj 2)) (ao (au aF.up b7 (aj 1) (aj 0)) aP)))) (aj 0)))
theorem lR:bu ["many","ahead_of","chains","chain_of","number"] ["many","ahead_of"] (aG (top 19)):=by walk_at "s"
theorem GX(T:Txt mg)(D:bj K mg "chains_by" (top 19) ["many","ahead_of"]):FnAt P w K mg base "chains_by" 1 ["many","ahead_of"] (spD K XR0 jb):=by
 refine D.ok lR (λvs H Q E h=>vP h λps r e=>match ps,e with|[_,_],_=>rfl) (λf cdv A outer s H vs Q E hr h=>?_)
 refine⟨_,(aq (aR (i:=2) lR.nd rfl (Or.inl rfl) (oZ aC))
   (aq (aR (i:=3) lR.nd rfl (Or.inl rfl) lX)
   (aq (gf ZaM rfl (iQ rfl T.jQ (ak (pv 0) aC)) (cZ (i:=4) lR.nd rfl (Or.inl rfl))
    (aO (gM (bz (K7 hr) (pv 4) (pv 1) (by with_unfolding_all rfl))
     (aq (iu (jD hr) (pv 3) (pv 4) (fB hr (pv 3) (fB hr (pv 1) (pv 4) (λ_ _=>rfl)) (λ_ _=>rfl)) rfl)
     (aO (jM (yr Za7 Zbf PySem.F.type_list_append iR (bc aX (pv 2) (fB hr (pv 3) (pv 4) (λ_ _=>rfl)) (λ_ _=>rfl)) (ak (pv 4) aC)))))
     (aq (iu (jD hr) (pv 3) (pv 4) (bK du rfl T.lH (by decide +kernel) (ak (pv 2) aC)) rfl)
     (aO (jM (yr Za7 Zbf PySem.F.type_list_append iR (pv 2) (ak (oZ (ak (pv 4) aC)) aC))))))))
   (aO (bA (pv 2)))))),vO (b:=m7) (k:=2) (n:=3) rfl (λps r e=>match ps,e with|[_,_],e=>⟨rfl,e⟩) h λio H0 F0 hio=>?_⟩
 exact(aM (pD (i:=2) trivial (Wi (qu aP)))
   (aM (eG (i:=3) trivial pB)
   (aM (iD (mX (ao (aj 0) aP)) (aL 4)
    (gO (bx (au aF.up RQ (aj 4) (bL 1)))
     (aM (mY (iz (bL 3) (iz (bL 1) (aj 4))) (aj 4))
     (U9 (iz (bL 3) (aj 4)) (aj 4)))
     (aM (mY (Ze (i:=2) (gk kZ (bD 2))) (aj 4))
     (Va (Wi (qu (ao (aj 4) aP)))))))
   (Iu 2))))
theorem eQ:bu ["states","wishes","ahead_of","short","apart"] ["states"] (aG (top 20)):=by walk_at "s"
theorem yh(T:Txt mg)(D:bj K mg "fewest_blocks" (top 20) ["states"])(Cm:FnAt P w K mg base "states_ahead" 2 ["states","number"] (spO K XR0 ju))(Cp:FnAt P w K mg base "most_pairs" 2 ["wishes"] (spO K XR0 gw))(sW:FnAt P w K mg base "short_of_givers" 2 ["wishes","giver_of"] (spM K XR0 eO))(Kd:FnAt P w K mg base "chains_by" 1 ["many","ahead_of"] (spD K XR0 jb)):FnAt P w K mg base "fewest_blocks" 3 ["states"] (spD K XR0 fD):=by
 refine D.ok eQ (λvs H Q E h=>vP h λps r e=>match ps,e with|[_],_=>rfl) (λf cdv A outer s H vs Q E hr h=>?_)
 refine⟨_,(aq (aR (i:=1) eQ.nd rfl (Or.inl rfl) (nW (Am hr rfl) rfl T.LR (by decide +kernel) (ak (d9 ["number","states"] [none,some 0] rfl (iQ rfl T.jQ (ak (bK du rfl T.lH (by decide +kernel) (ak (pv 0) aC)) aC)) (λ_ _ _ _ _=>(cj (i:=0) (by decide +kernel) rfl rfl)) (λ_ _ _ _ _=>o7) (λ_ _ _ _ _=>(dH (ak (pvl 0) (ak (aQ Cm (hr.mono (by decide)) (glc rfl) (ak (pvf 1) (ak (pvl 0) aC))) aC))))) aC)))
   (aq (aR (i:=2) eQ.nd rfl (Or.inl rfl) (aQ Cp (hr.mono (by decide)) rfl (ak (pv 1) aC)))
   (aq (aR (i:=3) eQ.nd rfl (Or.inr rfl) (aQ sW (hr.mono (by decide)) rfl (ak (pv 1) (ak (pv 2) aC))))
   (aq (UG (i:=4) ["number","short"] [none,some 3] rfl eQ.nd rfl rfl (iw (bc aX (pv 3) aA (λ_ _=>rfl))) (λ_ _ _ _ _=>(cj (i:=0) (by decide +kernel) rfl rfl)) (λ_ _ _ _ _=>(ql (bz (z9 hr) (pvl 0) (bc jN (pvf 1) aA (λ_ _=>rfl)) (by with_unfolding_all rfl)))) (λ_ _ _ _ _=>(pvl 0)))
   (aO (bA (dH (ak (aQ Kd (hr.mono (by decide)) rfl (ak (bK du rfl T.lH (by decide +kernel) (ak (pv 0) aC)) (ak (pv 2) aC))) (ak (pv 4) aC))))))))),vO (b:=iC) (k:=1) (n:=4) rfl (λps r e=>match ps,e with|[_],e=>⟨rfl,e⟩) h λio H0 F0 hio=>?_⟩
 exact(aM (bh (bZ (nM (Gd λ_ _ _=>M8) (lL (ji (mX (ao (gk kZ (bD 0)) aP)) (aL 0) (cP 0) pA (fK (ao (aj 0) (ao (bZ (eE (ao (aj 1) (ao (aj 0) aP)))) aP))))))) (aL 1))
   (aM (bh (bZ (eE (ao (aj 1) aP))) (aL 2))
   (aM (bh (bH (ao (aj 1) (ao (aj 2) aP))) (aL 3))
   (aM (eG (i:=4) trivial (ji (iy (au aF.up b7 (aj 3) aB)) (aL 0) (cP 0) (bx (au aH.up FJ (bD 0) (bO (au aF.up b7 (aj 1) aB)))) (aj 0)))
   (wg (qJ (vN (ao (gk kZ (bD 0)) (ao (aj 2) aP))) (lN 4 hio (by decide) vZ)))))))
theorem GZ:bu ["thing"] ["thing"] (aG (top 24)):=by walk_at "s"
theorem Ha(T:Txt mg)(D:bj K mg "is_stroke" (top 24) ["thing"])(Ma:FnAt P w K mg base "is_whole" 1 ["thing"] (spM K XR0 pJ)):FnAt P w K mg base "is_stroke" 2 ["thing"] (spM K XR0 m9):=by
 refine D.ok GZ (λvs H Q E h=>dh h λps r e=>match ps,e with|[_],_=>rfl) (λf cdv A outer s H vs Q E hr h=>?_)
 refine⟨_,(aq (gM (PW.pt (uU (zA (qg (bK qC rfl T.jC (by decide +kernel) (ak (pv 0) (ak (HB rfl T.Ol (n:="tuple") (by decide +kernel)) aC))))) (zy (bz (qx hr) (bK du rfl T.lH (by decide +kernel) (ak (pv 0) aC)) aA (bT _)))))
    (aO (bA Hr))
    cU)
   (aq (gM (PW.pt (uU (zA (qg (bK qC rfl T.jC (by decide +kernel) (ak (bc aX (pv 0) aA (λ_ _=>rfl)) (ak (HB rfl T.Zv (n:="str") (by decide +kernel)) aC))))) (zy (bz (Dz hr) (bc aX (pv 0) aA (λ_ _=>rfl)) (dH (ak (vd rfl T.J9) (ak (vd rfl T.J8) aC))) (by with_unfolding_all rfl)))))
    (aO (bA Hr))
    cU)
   (aO (bA (Ez (bK (QV rfl) rfl T.Zt (by decide +kernel) (ak (d9 ["number"] [none] rfl (iw (uY QL (pv 0) (uX aA) Fd)) (λ_ _ _ _ _=>(cj (i:=0) (by decide +kernel) rfl rfl)) (λ_ _ _ _ _=>o7) (λ_ _ _ _ _=>(aQ Ma (hr.mono (by decide)) (glc rfl) (ak (pvl 0) aC)))) aC)) (Kq (rB K4 (bc aX (pv 0) aA (λ_ _=>rfl)) (bc aX (pv 0) aA (λ_ _=>rfl)) (bT _)))))))),dg (b:=m8) (k:=1) (n:=0) rfl (λps r e=>match ps,e with|[_],e=>⟨rfl,e⟩) h λio H0 F0 hio=>?_⟩
 exact(aM (gO (vA (zQ (qt (z6 aH.up RK (bD 0) HQ))) (bx (au aH.up Ig (bO (gk kZ (bD 0))) (bO aB))))
    (cG HN)
    cW)
   (aM (gO (vA (zQ (qt (z6 aH.up RK (bO (au aF.up b7 (aj 0) aB)) HQ))) (bx (au aH.up FJ (bO (au aF.up b7 (aj 0) aB)) (bO (fK (ao j8 (ao j8 aP)))))))
    (cG HN)
    cW)
   (cG (Fp (gk Zc (lL (ji (iy (RC (aj 0) (vG aB) FP)) (aL 0) (cP 0) pA (bH (ao (aj 0) aP))))) (au aF.up Xr (au aF.up b7 (aj 0) aB) (au aF.up b7 (aj 0) aB))))))
theorem J5:bu ["size","kind"] ["size","kind"] (aG (top 25)):=by walk_at "s"
theorem J6(T:Txt mg)(D:bj K mg "lines_of" (top 25) ["size","kind"]):FnAt P w K mg base "lines_of" 1 ["size","kind"] (spM K XR0 jJ):=by
 refine D.ok J5 (λvs H Q E h=>dh h λps r e=>match ps,e with|[_,_],_=>rfl) (λf cdv A outer s H vs Q E hr h=>?_)
 refine⟨_,(aO (bA (Hs (bz (kh hr) (pv 1) (vd rfl T.J9) (bT _)) (bc aX (pv 0) aA (λ_ _=>rfl)) (bc aX (pv 0) aA (λ_ _=>rfl))))),dg (b:=pL) (k:=2) (n:=0) rfl (λps r e=>match ps,e with|[_,_],e=>⟨rfl,e⟩) h λio H0 F0 hio=>?_⟩
 exact(cG (Wc (bx (au aH.up yP (bD 1) (bO j8))) (au aF.up b7 (aj 0) aB) (au aF.up b7 (aj 0) aB)))
theorem Hb:bu ["size","kind"] ["size","kind"] (aG (top 26)):=by walk_at "s"
theorem Hc(T:Txt mg)(D:bj K mg "length_of" (top 26) ["size","kind"]):FnAt P w K mg base "length_of" 1 ["size","kind"] (spM K XR0 jc):=by
 refine D.ok Hb (λvs H Q E h=>dh h λps r e=>match ps,e with|[_,_],_=>rfl) (λf cdv A outer s H vs Q E hr h=>?_)
 refine⟨_,(aO (bA (Hs (bz (kh hr) (pv 1) (vd rfl T.J9) (bT _)) (bc aX (pv 0) aA (λ_ _=>rfl)) (bc aX (pv 0) aA (λ_ _=>rfl))))),dg (b:=ni) (k:=2) (n:=0) rfl (λps r e=>match ps,e with|[_,_],e=>⟨rfl,e⟩) h λio H0 F0 hio=>?_⟩
 exact(cG (Wc (bx (au aH.up yP (bD 1) (bO j8))) (au aF.up b7 (aj 0) aB) (au aF.up b7 (aj 0) aB)))
theorem Lz:bu ["size","thing"] ["size","thing"] (aG (top 27)):=by walk_at "s"
theorem LC(T:Txt mg)(D:bj K mg "lies_on" (top 27) ["size","thing"])(Ke:FnAt P w K mg base "is_stroke" 2 ["thing"] (spM K XR0 m9))(uT:FnAt P w K mg base "lines_of" 1 ["size","kind"] (spM K XR0 jJ))(rm:FnAt P w K mg base "length_of" 1 ["size","kind"] (spM K XR0 jc)):FnAt P w K mg base "lies_on" 3 ["size","thing"] (spM K XR0 rW):=by
 refine D.ok Lz (λvs H Q E h=>dh h λps r e=>match ps,e with|[_,_],_=>rfl) (λf cdv A outer s H vs Q E hr h=>?_)
 refine⟨_,(aq (gM (zA (qg (aQ Ke (hr.mono (by decide)) rfl (ak (pv 1) aC))))
    (aO (bA Hr))
    cU)
   (aO (bA (Ez (QJ K4 qy aA (bc aX (pv 1) aA (λ_ _=>rfl)) (aQ uT (hr.mono (by decide)) rfl (ak (pv 0) (ak (bc aX (pv 1) aA (λ_ _=>rfl)) aC)))) (Ez (rB K4 aA (bc aX (pv 1) aA (λ_ _=>rfl)) (bT _)) (Kq (rB qy (bc aX (pv 1) aA (λ_ _=>rfl)) (aQ rm (hr.mono (by decide)) rfl (ak (pv 0) (ak (bc aX (pv 1) aA (λ_ _=>rfl)) aC))) (bT _)))))))),dg (b:=rT) (k:=2) (n:=0) rfl (λps r e=>match ps,e with|[_,_],e=>⟨rfl,e⟩) h λio H0 F0 hio=>?_⟩
 exact(aM (gO (zQ (qt (bH (ao (aj 1) aP))))
    (cG HN)
    cW)
   (cG (Fp (Rh Xr Ie aB (au aF.up b7 (aj 1) aB) (bH (ao (aj 0) (ao (au aF.up b7 (aj 1) aB) aP)))) (Fp (au aF.up Xr aB (au aF.up b7 (aj 1) aB)) (au aF.up Ie (au aF.up b7 (aj 1) aB) (bH (ao (aj 0) (ao (au aF.up b7 (aj 1) aB) aP))))))))
theorem yX:bu ["stroke"] ["stroke"] (aG (top 28)):=by walk_at "s"
theorem yZ(T:Txt mg)(D:bj K mg "stroke_cells" (top 28) ["stroke"]):FnAt P w K mg base "stroke_cells" 1 ["stroke"] (spO K XR0 cX):=by
 refine D.ok yX (λvs H Q E h=>jk h λps r e=>match ps,e with|[_],_=>rfl) (λf cdv A outer s H vs Q E hr h=>?_)
 refine⟨_,(aq (gM (bz (kh hr) (bc aX (pv 0) aA (λ_ _=>rfl)) (vd rfl T.J9) (bT _))
    (aO (bA (d9 ["column","stroke"] [none,some 0] rfl (Dk rfl T.jQ (ak (bc aX (pv 0) aA (λ_ _=>rfl)) (ak (aW cH (bc aX (pv 0) aA (λ_ _=>rfl)) aA) aC))) (λ_ _ _ _ _=>(cj (i:=0) (by decide +kernel) rfl rfl)) (λ_ _ _ _ _=>o7) (λ_ _ _ _ _=>(dH (ak (pvl 0) (ak (bc jN (pvf 1) aA (λ_ _=>rfl)) aC)))))))
    cU)
   (aO (bA (d9 ["row","stroke"] [none,some 0] rfl (Dk rfl T.jQ (ak (bc aX (pv 0) aA (λ_ _=>rfl)) (ak (aW cH (bc aX (pv 0) aA (λ_ _=>rfl)) aA) aC))) (λ_ _ _ _ _=>(cj (i:=0) (by decide +kernel) rfl rfl)) (λ_ _ _ _ _=>o7) (λ_ _ _ _ _=>(dH (ak (bc jN (pvf 1) aA (λ_ _=>rfl)) (ak (pvl 0) aC)))))))),jj (b:=jw) (k:=1) (n:=0) rfl (λps r e=>match ps,e with|[_],e=>⟨rfl,e⟩) h λio H0 F0 hio=>?_⟩
 exact(aM (gO (bx (au aH.up yP (bO (au aF.up b7 (aj 0) aB)) (bO j8)))
    (rF (ji (M7 (ao (au aF.up b7 (aj 0) aB) (ao (au aF.up eU (au aF.up b7 (aj 0) aB) aB) aP))) (aL 0) (cP 0) pA (fK (ao (aj 0) (ao (au aF.up b7 (aj 1) aB) aP)))))
    cW)
   (rF (ji (M7 (ao (au aF.up b7 (aj 0) aB) (ao (au aF.up eU (au aF.up b7 (aj 0) aB) aB) aP))) (aL 0) (cP 0) pA (fK (ao (au aF.up b7 (aj 1) aB) (ao (aj 0) aP))))))
theorem Hd:bu ["size","stroke"] ["size","stroke"] (aG (top 29)):=by walk_at "s"
theorem Hf(T:Txt mg)(D:bj K mg "cells_cut" (top 29) ["size","stroke"])(Cq:FnAt P w K mg base "set_of" 2 ["size","cells"] (spM K XR0 oM))(gG:FnAt P w K mg base "stroke_cells" 1 ["stroke"] (spO K XR0 cX)):FnAt P w K mg base "cells_cut" 3 ["size","stroke"] (spM K XR0 jZ):=by
 refine D.ok Hd (λvs H Q E h=>dh h λps r e=>match ps,e with|[_,_],_=>rfl) (λf cdv A outer s H vs Q E hr h=>?_)
 refine⟨_,(aO (bA (aQ Cq (hr.mono (by decide)) rfl (ak (pv 0) (ak (aQ gG (hr.mono (by decide)) rfl (ak (pv 1) aC)) aC))))),dg (b:=nj) (k:=2) (n:=0) rfl (λps r e=>match ps,e with|[_,_],e=>⟨rfl,e⟩) h λio H0 F0 hio=>?_⟩
 exact(cG (bH (ao (aj 0) (ao (bZ (eE (ao (aj 1) aP))) aP))))
theorem fj:bu ["size","keep","kind","line","last","cells","kept"] ["size","keep","kind","line"] (aG (top 30)):=by walk_at "s"
theorem uL(T:Txt mg)(D:bj K mg "longest_strokes" (top 30) ["size","keep","kind","line"])(rm:FnAt P w K mg base "length_of" 1 ["size","kind"] (spM K XR0 jc))(gG:FnAt P w K mg base "stroke_cells" 1 ["stroke"] (spO K XR0 cX))(uQ:FnAt P w K mg base "has_cell" 2 ["size","some","cell"] (spM K XR0 jH)):FnAt P w K mg base "longest_strokes" 3 ["size","keep","kind","line"] (spO K XR0 fU):=by
 refine D.ok fj (λvs H Q E h=>jk h λps r e=>match ps,e with|[_,_,_,_],_=>rfl) (λf cdv A outer s H vs Q E hr h=>?_)
 refine⟨_,(aq (aR (i:=4) fj.nd rfl (Or.inl rfl) (aW uf (aQ rm (hr.mono (by decide)) rfl (ak (pv 0) (ak (pv 2) aC))) aA))
   (aq (aR (i:=5) fj.nd rfl (Or.inl rfl) (aQ gG (hr.mono (by decide)) rfl (ak (dH (ak (pv 2) (ak (pv 3) (ak aA (ak (pv 4) aC))))) aC)))
   (aq (aR (i:=6) fj.nd rfl (Or.inl rfl) (aW Fy (aW Fy (oZ (ak (V4 W5 aA) aC)) (d9 ["place","cell","size","keep"] [none,none,some 0,some 1] rfl (Fj rfl T.qZ (ak (pv 5) aC)) (λ_ _ _ _ _=>(vf (n:=2) rfl (dR (cj (i:=0) (by decide +kernel) rfl rfl) (dR (cj (i:=1) (by decide +kernel) rfl rfl) oW)))) (λ_ _ _ _ _=>(ql (qg (aQ uQ (hr.mono (by decide)) (glc rfl) (ak (pvf 2) (ak (pvf 3) (ak (pvl 1) aC))))))) (λ_ _ _ _ _=>(pvl 0)))) (oZ (ak (aW cH (pv 4) aA) aC))))
   (aO (bA (d9 ["one","other","kind","line"] [none,none,some 2,some 3] rfl (Xz rfl T.Zw (ak (pv 6) (ak (uY Mv (pv 6) (uX aA) Fd) aC))) (λ_ _ _ _ _=>(vf (n:=2) rfl (dR (cj (i:=0) (by decide +kernel) rfl rfl) (dR (cj (i:=1) (by decide +kernel) rfl rfl) oW)))) (λ_ _ _ _ _=>(ql (bz qy (aW Ii (pvl 0) aA) (pvl 1) (bT _)))) (λ_ _ _ _ _=>(dH (ak (pvf 2) (ak (pvf 3) (ak (aW Ii (pvl 0) aA) (ak (aW uf (pvl 1) aA) aC)))))))))))),jj (b:=fQ) (k:=4) (n:=3) rfl (λps r e=>match ps,e with|[_,_,_,_],e=>⟨rfl,e⟩) h λio H0 F0 hio=>?_⟩
 exact(aM (bh (au aF.up zX (bH (ao (aj 0) (ao (aj 2) aP))) aB) (aL 4))
   (aM (bh (bZ (eE (ao (fK (ao (aj 2) (ao (aj 3) (ao aB (ao (aj 4) aP))))) aP))) (aL 5))
   (aM (bh (bZ (Rg aV.up Rv (lL (Rg aV.up Rv (lL (qu (ao (Xv aB) aP))) (lL (ji (FT (ao (aj 5) aP)) (uo (dW (aL 0) (dW (aL 1) o9))) (zZ (gW (cP 0) (gW (cP 1) vH))) (qt (bH (ao (aj 2) (ao (aj 3) (ao (aj 1) aP))))) (aj 0))))) (lL (qu (ao (au aF.up eU (aj 4) aB) aP))))) (aL 6))
   (rF (ji (XC (ao (aj 6) (ao (bZ (Rx (jf 6) (vG aB) FP)) aP))) (uo (dW (aL 0) (dW (aL 1) o9))) (zZ (gW (cP 0) (gW (cP 1) vH))) (bx (au aF.up Ie (au aF.up eU (aj 0) aB) (aj 1))) (fK (ao (aj 2) (ao (aj 3) (ao (au aF.up eU (aj 0) aB) (ao (au aF.up zX (aj 1) aB) aP))))))))))
theorem dM:bu ["size","keep","kind","by_cell","line","stroke","cell"] ["size","keep","kind"] (aG (top 31)):=by walk_at "s"
theorem uM(T:Txt mg)(D:bj K mg "longest_by_cell" (top 31) ["size","keep","kind"])(uT:FnAt P w K mg base "lines_of" 1 ["size","kind"] (spM K XR0 jJ))(xn:FnAt P w K mg base "longest_strokes" 3 ["size","keep","kind","line"] (spO K XR0 fU))(gG:FnAt P w K mg base "stroke_cells" 1 ["stroke"] (spO K XR0 cX)):FnAt P w K mg base "longest_by_cell" 4 ["size","keep","kind"] (spO K XR0 dm):=by
 refine D.ok dM (λvs H Q E h=>jk h λps r e=>match ps,e with|[_,_,_],_=>rfl) (λf cdv A outer s H vs Q E hr h=>?_)
 refine⟨_,(aq (aR (i:=3) dM.nd rfl (Or.inl rfl) qp)
   (aq (gf ZaM rfl (iQ rfl T.jQ (ak (aQ uT (hr.mono (by decide)) rfl (ak (pv 0) (ak (pv 2) aC))) aC)) (cZ (i:=4) dM.nd rfl (Or.inl rfl))
    (aO (gf ZaM rfl (iw (aQ xn (hr.mono (by decide)) rfl (ak (pv 0) (ak (pv 1) (ak (pv 2) (ak (pv 4) aC)))))) (cZ (i:=5) dM.nd rfl (Or.inl rfl))
     (aO (gf ZaM rfl (iw (aQ gG (hr.mono (by decide)) rfl (ak (pv 5) aC))) (cZ (i:=6) dM.nd rfl (Or.inl rfl))
      (aO (iu (jD hr) (pv 3) (pv 6) (pv 5) rfl)))))))
   (aO (bA (pv 3))))),jj (b:=jx) (k:=3) (n:=4) rfl (λps r e=>match ps,e with|[_,_,_],e=>⟨rfl,e⟩) h λio H0 F0 hio=>?_⟩
 exact(aM (eG (i:=3) trivial vK)
   (aM (iD (mX (ao (bH (ao (aj 0) (ao (aj 2) aP))) aP)) (aL 4)
    (iD (iy (bZ (eE (ao (aj 0) (ao (aj 1) (ao (aj 2) (ao (aj 4) aP))))))) (aL 5)
     (iD (iy (bZ (eE (ao (aj 5) aP)))) (aL 6)
      (mY (aj 5) (aj 6)))))
   (ou 3 hio)))
theorem jA:bu ["size","away","keep","along_row","along_column","crossed","cell"] ["size","away","keep"] (aG (top 32)):=by walk_at "s"
theorem Hg(T:Txt mg)(D:bj K mg "crossings" (top 32) ["size","away","keep"])(nC:FnAt P w K mg base "longest_by_cell" 4 ["size","keep","kind"] (spO K XR0 dm))(pQ:FnAt P w K mg base "cells_of" 3 ["size","some"] (spO K XR0 iH)):FnAt P w K mg base "crossings" 5 ["size","away","keep"] (spD K XR0 j4):=by
 refine D.ok jA (λvs H Q E h=>vP h λps r e=>match ps,e with|[_,_,_],_=>rfl) (λf cdv A outer s H vs Q E hr h=>?_)
 refine⟨_,(aq (aR (i:=3) jA.nd rfl (Or.inl rfl) (aQ nC (hr.mono (by decide)) rfl (ak (pv 0) (ak (pv 2) (ak (vd rfl T.J9) aC)))))
   (aq (aR (i:=4) jA.nd rfl (Or.inl rfl) (aQ nC (hr.mono (by decide)) rfl (ak (pv 0) (ak (pv 2) (ak (vd rfl T.J8) aC)))))
   (aq (aR (i:=5) jA.nd rfl (Or.inl rfl) qp)
   (aq (gf ZaM rfl (iw (aQ pQ (hr.mono (by decide)) rfl (ak (pv 0) (ak (pv 1) aC)))) (cZ (i:=6) jA.nd rfl (Or.inl rfl))
    (aO (jM (yr Za7 Zbf PySem.F.type_list_append iR (Lf (jD hr) (pv 5) (fB hr (pv 3) (pv 6) (λ_ _=>rfl)) (oZ aC) ⟨rfl,rfl,rfl,rfl⟩) (ak (fB hr (pv 4) (pv 6) (λ_ _=>rfl)) aC)))))
   (aO (bA (pv 5))))))),vO (b:=qO) (k:=3) (n:=4) rfl (λps r e=>match ps,e with|[_,_,_],e=>⟨rfl,e⟩) h λio H0 F0 hio=>?_⟩
 exact(aM (bh (bZ (eE (ao (aj 0) (ao (aj 2) (ao j8 aP))))) (aL 3))
   (aM (bh (bZ (eE (ao (aj 0) (ao (aj 2) (ao j8 aP))))) (aL 4))
   (aM (pD (i:=5) trivial (XM vK))
   (aM (iD (iy (bZ (eE (ao (aj 0) (ao (aj 1) aP))))) (aL 6)
    (PL (i:=5) (iz (bL 3) (aj 6)) (iz (bL 4) (aj 6))))
   (Iu 5)))))
theorem cM:bu ["size","away","keep","both","crossed","column_of","short","strokes","apart"] ["size","away","keep"] (aG (top 33)):=by walk_at "s"
theorem xm(T:Txt mg)(D:bj K mg "fewest_strokes" (top 33) ["size","away","keep"])(pQ:FnAt P w K mg base "cells_of" 3 ["size","some"] (spO K XR0 iH))(Kf:FnAt P w K mg base "crossings" 5 ["size","away","keep"] (spD K XR0 j4))(Hh:FnAt P w K mg base "most_pairs" 2 ["wishes"] (spO K XR0 jq))(xq:FnAt P w K mg base "short_of_givers" 2 ["wishes","giver_of"] (spM K XR0 fP))(Cq:FnAt P w K mg base "set_of" 2 ["size","cells"] (spM K XR0 oM)):FnAt P w K mg base "fewest_strokes" 6 ["size","away","keep"] (spM K XR0 cR):=by
 refine D.ok cM (λvs H Q E h=>dh h λps r e=>match ps,e with|[_,_,_],_=>rfl) (λf cdv A outer s H vs Q E hr h=>?_)
 refine⟨_,(aq (aR (i:=3) cM.nd rfl (Or.inl rfl) (aQ pQ (hr.mono (by decide)) rfl (ak (pv 0) (ak (aW oY (pv 1) (pv 2)) aC))))
   (aq (gM (bz Mp (bK du rfl T.lH (by decide +kernel) (ak (pv 3) aC)) aA (bT _))
    (aO QC)
    cU)
   (aq (aR (i:=4) cM.nd rfl (Or.inl rfl) (aQ Kf (hr.mono (by decide)) rfl (ak (pv 0) (ak (pv 1) (ak (pv 2) aC)))))
   (aq (aR (i:=5) cM.nd rfl (Or.inl rfl) (aQ Hh (hr.mono (by decide)) rfl (ak (pv 4) aC)))
   (aq (aR (i:=6) cM.nd rfl (Or.inr rfl) (aQ xq (hr.mono (by decide)) rfl (ak (pv 4) (ak (pv 5) aC))))
   (aq (aR (i:=7) cM.nd rfl (Or.inl rfl) (aW Fy (rJ 4 (d9 ["stroke","short"] [none,some 6] rfl (Bm (pv 4)) (λ_ _ _ _ _=>(cj (i:=0) (by decide +kernel) rfl rfl)) (λ_ _ _ _ _=>(ql (bz (z9 hr) (pvl 0) (bc jN (pvf 1) aA (λ_ _=>rfl)) (by with_unfolding_all rfl)))) (λ_ _ _ _ _=>(pvl 0)))) (bc aX (pv 6) aA (λ_ _=>rfl))))
   (aq (aR (i:=8) cM.nd rfl (Or.inl rfl) (aQ Cq (hr.mono (by decide)) rfl (ak (pv 0) (ak (rJ 5 (d9 ["along_row","along_column"] [none,none] rfl (Ej (pv 5)) (λ_ _ _ _ _=>(vf (n:=2) rfl (dR (cj (i:=0) (by decide +kernel) rfl rfl) (dR (cj (i:=1) (by decide +kernel) rfl rfl) oW)))) (λ_ _ _ _ _=>o7) (λ_ _ _ _ _=>(dH (ak (bc jN (pvl 1) aA (λ_ _=>rfl)) (ak (bc jN (pvl 0) aA (λ_ _=>rfl)) aC)))))) aC))))
   (aO (bA (dH (ak (bK tu rfl T.q9 (by decide +kernel) (ak (pv 7) aC)) (ak (aQ pQ (hr.mono (by decide)) rfl (ak (pv 0) (ak (pv 8) aC))) aC)))))))))))),dg (b:=gJ) (k:=3) (n:=6) rfl (λps r e=>match ps,e with|[_,_,_],e=>⟨rfl,e⟩) h λio H0 F0 hio=>?_⟩
 exact(aM (bh (bZ (eE (ao (aj 0) (ao (au aF.up vC (aj 1) (aj 2)) aP)))) (aL 3))
   (aM (gO (bx (au aF.up U3 (gk kZ (bD 3)) aB))
    RN
    cW)
   (aM (pD (i:=4) trivial (vN (ao (aj 0) (ao (aj 1) (ao (aj 2) aP)))))
   (aM (vY 4 (bh (bZ (eE (ao (aj 4) aP))) (aL 5)))
   (aM (bh (bH (ao (aj 4) (ao (aj 5) aP))) (aL 6))
   (aM (bh (bZ (Rg aV.up Rv (lL (rM 4 (λ_ _=>iZ (xR 4) (aL 0) (cP 0) (bx (au aH.up FJ (bD 0) (bO (au aF.up b7 (aj 1) aB)))) (aj 0)))) (zc (au aF.up b7 (aj 6) aB)))) (aL 7))
   (aM (bh (bH (ao (aj 0) (ao (bZ (rM 5 (λ_ _=>iZ (Bo 5) (uo (dW (aL 0) (dW (aL 1) o9))) (zZ (gW (cP 0) (gW (cP 1) vH))) pA (fK (ao (au aF.up b7 (aj 1) aB) (ao (au aF.up b7 (aj 0) aB) aP)))))) aP))) (aL 8))
   (cG (fK (ao (bZ (nM Nr (jf 7))) (ao (bZ (eE (ao (aj 0) (ao (aj 8) aP)))) aP)))))))))))
theorem dN:bu ["states","block_of","block","chain","number"] ["states"] (aG (top 37)):=by walk_at "s"
theorem uN(T:Txt mg)(D:bj K mg "blocks_by_state" (top 37) ["states"])(za:FnAt P w K mg base "fewest_blocks" 3 ["states"] (spD K XR0 fD)):FnAt P w K mg base "blocks_by_state" 4 ["states"] (spO K XR0 d7):=by
 refine D.ok dN (λvs H Q E h=>jk h λps r e=>match ps,e with|[_],_=>rfl) (λf cdv A outer s H vs Q E hr h=>?_)
 refine⟨_,(aq (aR (i:=1) dN.nd rfl (Or.inl rfl) lX)
   (aq (gf ZaM rfl (Fj rfl T.qZ (ak (bc aX (aQ za (hr.mono (by decide)) rfl (ak (pv 0) aC)) aA (λ_ _=>rfl)) aC)) (Kr (n:=2) rfl (dR (cZ (i:=2) dN.nd rfl (Or.inl rfl)) (dR (cZ (i:=3) dN.nd rfl (Or.inl rfl)) oW)))
    (aO (gf ZaM rfl (iw (pv 3)) (cZ (i:=4) dN.nd rfl (Or.inl rfl))
     (aO (iu (jD hr) (pv 1) (pv 4) (pv 2) rfl)))))
   (aO (bA (pv 1))))),jj (b:=fV) (k:=1) (n:=4) rfl (λps r e=>match ps,e with|[_],e=>⟨rfl,e⟩) h λio H0 F0 hio=>?_⟩
 exact(aM (eG (i:=1) trivial pB)
   (aM (iD (FT (ao (au aF.up b7 (Xy (vN (ao (aj 0) aP))) aB) aP)) (uo (dW (aL 2) (dW (aL 3) o9)))
    (iD (iy (aj 3)) (aL 4)
     (mY (aj 2) (aj 4))))
   (ou 1 hio)))
theorem gF:bu ["size","states","block_of","woods","plan","number","state","block","away"] ["size","states"] (aG (top 38)):=by walk_at "s"
theorem LK(T:Txt mg)(D:bj K mg "plan_of" (top 38) ["size","states"])(xr:FnAt P w K mg base "blocks_by_state" 4 ["states"] (spO K XR0 d7))(Ua:FnAt P w K mg base "all_of" 1 ["size"] (spM K XR0 wB))(jL:FnAt P w K mg base "fewest_strokes" 6 ["size","away","keep"] (spM K XR0 cR)):FnAt P w K mg base "plan_of" 7 ["size","states"] (spO K XR0 rZ):=by
 refine D.ok gF (λvs H Q E h=>jk h λps r e=>match ps,e with|[_,_],_=>rfl) (λf cdv A outer s H vs Q E hr h=>?_)
 refine⟨_,(aq (aR (i:=2) gF.nd rfl (Or.inl rfl) (aQ xr (hr.mono (by decide)) rfl (ak (pv 1) aC)))
   (aq (aR (i:=3) gF.nd rfl (Or.inl rfl) lX)
   (aq (aR (i:=4) gF.nd rfl (Or.inl rfl) (oZ aC))
   (aq (gf ZaM rfl (Fj rfl T.qZ (ak (pv 1) aC)) (Kr (n:=2) rfl (dR (cZ (i:=5) gF.nd rfl (Or.inl rfl)) (dR (cZ (i:=6) gF.nd rfl (Or.inl rfl)) oW)))
    (aq (aR (i:=7) gF.nd rfl (Or.inr rfl) (fB hr (pv 2) (pv 5) (λ_ _=>rfl)))
    (aq (aR (i:=8) gF.nd rfl (Or.inl rfl) (aW oY (DW hr (pv 3) (pv 7) (aQ Ua (hr.mono (by decide)) rfl (ak (pv 0) aC)) ⟨rfl,rfl,rfl,rfl⟩) (V4 W6 (pv 6))))
    (aq (jM (yr Za7 PySem.F.slot_list_extend PySem.F.type_list_extend OJ (pv 4) (ak (d9 ["stroke","block"] [none,some 7] rfl (iw (bc aX (aQ jL (hr.mono (by decide)) rfl (ak (pv 0) (ak (pv 8) (ak (pv 6) aC)))) aA (λ_ _=>rfl))) (λ_ _ _ _ _=>(cj (i:=0) (by decide +kernel) rfl rfl)) (λ_ _ _ _ _=>o7) (λ_ _ _ _ _=>(dH (ak (vd (glc rfl) T.Zx) (ak (pvf 1) (ak (pvl 0) aC)))))) aC)))
    (aq (jM (yr Za7 Zbf PySem.F.type_list_append iR (pv 4) (ak (dH (ak (vd rfl T.VM) (ak (pv 7) (ak (pv 5) aC)))) aC)))
    (aO (iu (jD hr) (pv 3) (pv 7) (pv 6) rfl)))))))
   (aO (bA (pv 4))))))),jj (b:=rY) (k:=2) (n:=7) rfl (λps r e=>match ps,e with|[_,_],e=>⟨rfl,e⟩) h λio H0 F0 hio=>?_⟩
 exact(aM (bh (bZ (eE (ao (aj 1) aP))) (aL 2))
   (aM (eG (i:=3) trivial pB)
   (aM (eG (i:=4) trivial (qu aP))
   (aM (iD (FT (ao (aj 1) aP)) (uo (dW (aL 5) (dW (aL 6) o9)))
    (aM (bh (iz (bL 2) (aj 5)) (aL 7))
    (aM (bh (au aF.up vC (Io (bL 3) (aj 7) (bH (ao (aj 0) aP))) (Xx (aj 6))) (aL 8))
    (aM (X6 (ji (iy (au aF.up b7 (bH (ao (aj 0) (ao (aj 8) (ao (aj 6) aP)))) aB)) (aL 0) (cP 0) pA (fK (ao j8 (ao (aj 1) (ao (aj 0) aP))))))
    (aM (Ft (fK (ao j8 (ao (aj 7) (ao (aj 5) aP)))))
    (mY (aj 6) (aj 7)))))))
   (ou 4 hio)))))
theorem yj:bu ["_law_script","_law_k","_law_number"] ["_law_script","_law_k"] (aG (top 40)):=by walk_at "s"
theorem Qu(T:Txt mg)(D:bj K mg "_law_cell" (top 40) ["_law_script","_law_k"]):FnAt P w K mg base "_law_cell" 1 ["_law_script","_law_k"] (spM K XR0 dD):=by
 refine D.ok yj (λvs H Q E h=>dh h λps r e=>match ps,e with|[_,_],_=>rfl) (λf cdv A outer s H vs Q E hr h=>?_)
 refine⟨_,(aq (gM (bz qy (pv 1) (bK du rfl T.lH (by decide +kernel) (ak (pv 0) aC)) (bT _))
    (aO (bA (bc aX (pv 0) (pv 1) (λ_ _=>rfl))))
    cU)
   (aq (aR (i:=2) yj.nd rfl (Or.inl rfl) (aW cH (aW dX (pv 1) (pv 1)) aA))
   (aq (gM (bz Mp (bK du rfl T.lH (by decide +kernel) (ak (pv 0) aC)) aA (bT _))
    (aO (aR (i:=2) yj.nd rfl (Or.inl rfl) (aW cH (pv 2) (aW eY (bc aX (pv 0) (aW eY (aW dX (pv 1) aA) (bK du rfl T.lH (by decide +kernel) (ak (pv 0) aC))) (λ_ _=>rfl)) aA))))
    cU)
   (aO (bA (aW eY (aW dX (pv 2) (pv 2)) aA)))))),dg (b:=qP) (k:=2) (n:=1) rfl (λps r e=>match ps,e with|[_,_],e=>⟨rfl,e⟩) h λio H0 F0 hio=>?_⟩
 exact(aM (gO (bx (au aF.up Ie (aj 1) (gk kZ (bD 0))))
    (cG (au aF.up b7 (aj 0) (aj 1)))
    cW)
   (aM (bh (au aF.up eU (au aF.up jU (aj 1) (aj 1)) aB) (aL 2))
   (aM (gO (bx (au aF.up U3 (gk kZ (bD 0)) aB))
    (bh (au aF.up eU (aj 2) (au aF.up jh (au aF.up b7 (aj 0) (au aF.up jh (au aF.up jU (aj 1) aB) (gk kZ (bD 0)))) aB)) (aL 2))
    cW)
   (cG (au aF.up jh (au aF.up jU (aj 2) (aj 2)) aB)))))
theorem uO:bu ["_law_cell_here","_law_k","_law_number"] ["_law_cell_here","_law_k"] (aG (top 41)):=by walk_at "s"
theorem LQ(T:Txt mg)(D:bj K mg "_law_mixed" (top 41) ["_law_cell_here","_law_k"]):FnAt P w K mg base "_law_mixed" 1 ["_law_cell_here","_law_k"] (spM K XR0 bI):=by
 refine D.ok uO (λvs H Q E h=>dh h λps r e=>match ps,e with|[_,_],_=>rfl) (λf cdv A outer s H vs Q E hr h=>?_)
 refine⟨_,(aq (gM (bz Yy (pv 0) (aW W4 aA aA) (bT _))
    (aO (bA (aW oY (aW QG (pv 0) (aW dX aA (pv 1))) aA)))
    cU)
   (aq (aR (i:=2) uO.nd rfl (Or.inl rfl) (aW eY (aW dX (aW cH (aW cH (aW cH (aW eY (pv 0) aA) (aW dX (aW dX aA (pv 1)) (pv 1))) (pv 1)) aA) aA) aA))
   (aq (aR (i:=2) uO.nd rfl (Or.inl rfl) (aW eY (aW dX (pv 2) (pv 2)) aA))
   (aO (bA (aW eY (aW dX (aW cH (pv 2) (pv 1)) aA) aA)))))),dg (b:=pM) (k:=2) (n:=1) rfl (λps r e=>match ps,e with|[_,_],e=>⟨rfl,e⟩) h λio H0 F0 hio=>?_⟩
 exact(aM (gO (bx (au aF.up ZL (aj 0) (au aF.up Y7 aB aB)))
    (cG (au aF.up vC (au aF.up Wf (aj 0) (au aF.up jU aB (aj 1))) aB))
    cW)
   (aM (bh (au aF.up jh (au aF.up jU (au aF.up eU (au aF.up eU (au aF.up eU (au aF.up jh (aj 0) aB) (au aF.up jU (au aF.up jU aB (aj 1)) (aj 1))) (aj 1)) aB) aB) aB) (aL 2))
   (aM (bh (au aF.up jh (au aF.up jU (aj 2) (aj 2)) aB) (aL 2))
   (cG (au aF.up jh (au aF.up jU (au aF.up eU (aj 2) (aj 1)) aB) aB)))))
theorem Ew:bu ["_law_cell_here","_law_number"] ["_law_cell_here"] (aG (top 42)):=by walk_at "s"
theorem Qv(T:Txt mg)(D:bj K mg "_law_size" (top 42) ["_law_cell_here"])(cN:FnAt P w K mg base "_law_mixed" 1 ["_law_cell_here","_law_k"] (spM K XR0 bI)):FnAt P w K mg base "_law_size" 2 ["_law_cell_here"] (spM K XR0 j5):=by
 refine D.ok Ew (λvs H Q E h=>dh h λps r e=>match ps,e with|[_],_=>rfl) (λf cdv A outer s H vs Q E hr h=>?_)
 refine⟨_,(aq (aR (i:=1) Ew.nd rfl (Or.inl rfl) (aQ cN (hr.mono (by decide)) rfl (ak (pv 0) (ak aA aC))))
   (aq (gM (bz (kh hr) (aW eY (aQ cN (hr.mono (by decide)) rfl (ak (pv 0) (ak aA aC))) aA) aA (bT _))
    (aO (bA (dH (ak (aW cH aA (aW eY (pv 1) aA)) (ak (aW cH aA (aW eY (aW zb (pv 1) aA) aA)) aC)))))
    cU)
   (aO (bA (dH (ak (aW cH aA (aW eY (pv 1) aA)) (ak (aW cH aA (aW eY (aW zb (pv 1) aA) aA)) aC))))))),dg (b:=nq) (k:=1) (n:=1) rfl (λps r e=>match ps,e with|[_],e=>⟨rfl,e⟩) h λio H0 F0 hio=>?_⟩
 exact(aM (bh (bH (ao (aj 0) (ao aB aP))) (aL 1))
   (aM (gO (bx (au aH.up yP (bO (au aF.up jh (bH (ao (aj 0) (ao aB aP))) aB)) (bO aB)))
    (cG (fK (ao (au aF.up eU aB (au aF.up jh (aj 1) aB)) (ao (au aF.up eU aB (au aF.up jh (au aF.up M4 (aj 1) aB) aB)) aP))))
    cW)
   (cG (fK (ao (au aF.up eU aB (au aF.up jh (aj 1) aB)) (ao (au aF.up eU aB (au aF.up jh (au aF.up M4 (aj 1) aB) aB)) aP))))))
theorem mQ:bu ["_law_size_here","_law_cell_here","_law_k","_law_many","_law_number","_law_j","_law_kind"] ["_law_size_here","_law_cell_here","_law_k"] (aG (top 43)):=by walk_at "s"
theorem T7(T:Txt mg)(D:bj K mg "_law_set" (top 43) ["_law_size_here","_law_cell_here","_law_k"])(cN:FnAt P w K mg base "_law_mixed" 1 ["_law_cell_here","_law_k"] (spM K XR0 bI)):FnAt P w K mg base "_law_set" 2 ["_law_size_here","_law_cell_here","_law_k"] (spM K XR0 mG):=by
 refine D.ok mQ (λvs H Q E h=>dh h λps r e=>match ps,e with|[_,_,_],_=>rfl) (λf cdv A outer s H vs Q E hr h=>?_)
 refine⟨_,(aq (aR (i:=3) mQ.nd rfl (Or.inl rfl) (aW dX (bc aX (pv 0) aA (λ_ _=>rfl)) (bc aX (pv 0) aA (λ_ _=>rfl))))
   (aq (aR (i:=4) mQ.nd rfl (Or.inl rfl) aA)
   (aq (gf ZaM rfl (iQ rfl T.jQ (ak (aW cH aA (aW zb (pv 3) aA)) aC)) (cZ (i:=5) mQ.nd rfl (Or.inl rfl))
    (aO (aR (i:=4) mQ.nd rfl (Or.inl rfl) (aW cH (aW dX (pv 4) aA) (aQ cN (hr.mono (by decide)) rfl (ak (pv 1) (ak (aW cH (aW dX aA (pv 2)) (pv 5)) aC)))))))
   (aq (aR (i:=4) mQ.nd rfl (Or.inl rfl) (aW eY (pv 4) (aW zG aA (pv 3))))
   (aq (aR (i:=6) mQ.nd rfl (Or.inl rfl) (aW eY (aQ cN (hr.mono (by decide)) rfl (ak (pv 1) (ak (aW cH (aW dX aA (pv 2)) aA) aC))) aA))
   (aq (gM (bz (kh hr) (pv 6) aA (bT _))
    (aO (bA (aW uf (aW zG aA (pv 3)) aA)))
    cU)
   (aq (gM (bz (kh hr) (pv 6) aA (bT _))
    (aO (bA aA))
    cU)
   (aO (bA (pv 4)))))))))),dg (b:=pN) (k:=3) (n:=4) rfl (λps r e=>match ps,e with|[_,_,_],e=>⟨rfl,e⟩) h λio H0 F0 hio=>?_⟩
 exact(aM (bh (au aF.up jU (au aF.up b7 (aj 0) aB) (au aF.up b7 (aj 0) aB)) (aL 3))
   (aM (bh aB (aL 4))
   (aM (iD (mX (ao (au aF.up eU aB (au aF.up M4 (aj 3) aB)) aP)) (aL 5)
    (bh (au aF.up eU (au aF.up jU (aj 4) aB) (bH (ao (aj 1) (ao (au aF.up eU (au aF.up jU aB (aj 2)) (aj 5)) aP)))) (aL 4)))
   (aM (bh (au aF.up jh (aj 4) (au aF.up Ib aB (aj 3))) (aL 4))
   (aM (bh (au aF.up jh (bH (ao (aj 1) (ao (au aF.up eU (au aF.up jU aB (aj 2)) aB) aP))) aB) (aL 6))
   (aM (gO (bx (au aH.up yP (bD 6) (bO aB)))
    (cG (au aF.up zX (au aF.up Ib aB (aj 3)) aB))
    cW)
   (aM (gO (bx (au aH.up yP (bD 6) (bO aB)))
    (cG aB)
    cW)
   (cG (aj 4)))))))))
theorem eV:bu ["_law_script","_law_size_here","_law_many","_law_states_here","_law_k","_law_cell_here","_law_state","_law_way"] ["_law_script","_law_size_here","_law_many"] (aG (top 44)):=by walk_at "s"
theorem J7(T:Txt mg)(D:bj K mg "_law_states" (top 44) ["_law_script","_law_size_here","_law_many"])(nF:FnAt P w K mg base "_law_cell" 1 ["_law_script","_law_k"] (spM K XR0 dD))(Mf:FnAt P w K mg base "_law_set" 2 ["_law_size_here","_law_cell_here","_law_k"] (spM K XR0 mG))(cN:FnAt P w K mg base "_law_mixed" 1 ["_law_cell_here","_law_k"] (spM K XR0 bI)):FnAt P w K mg base "_law_states" 3 ["_law_script","_law_size_here","_law_many"] (spO K XR0 ik):=by
 refine D.ok eV (λvs H Q E h=>jk h λps r e=>match ps,e with|[_,_,_],_=>rfl) (λf cdv A outer s H vs Q E hr h=>?_)
 refine⟨_,(aq (aR (i:=3) eV.nd rfl (Or.inl rfl) (oZ aC))
   (aq (gf ZaM rfl (iQ rfl T.jQ (ak (pv 2) aC)) (cZ (i:=4) eV.nd rfl (Or.inl rfl))
    (aq (aR (i:=5) eV.nd rfl (Or.inl rfl) (aQ nF (hr.mono (by decide)) rfl (ak (pv 0) (ak (aW cH aA (pv 4)) aC))))
    (aq (aR (i:=6) eV.nd rfl (Or.inl rfl) (aQ Mf (hr.mono (by decide)) rfl (ak (pv 1) (ak (pv 5) (ak (pv 4) aC)))))
    (aq (aR (i:=7) eV.nd rfl (Or.inl rfl) (aW eY (aQ cN (hr.mono (by decide)) rfl (ak (pv 5) (ak aA aC))) aA))
    (aq (gM (PW.pt (Kp (bz Mp (pv 4) aA (bT _)) (Ey (bz qy (pv 7) aA (bT _)))))
     (aO (aR (i:=6) eV.nd rfl (Or.inl rfl) (aW oY (pv 6) (bc aX (pv 3) (aW eY (aQ cN (hr.mono (by decide)) rfl (ak (pv 5) (ak aA aC))) (pv 4)) (λ_ _=>rfl)))))
     cU)
    (aq (gM (PW.pt (Kp (bz Mp (pv 4) aA (bT _)) (Ey (bz (kh hr) (pv 7) aA (bT _)))))
     (aO (aR (i:=6) eV.nd rfl (Or.inl rfl) (bc aX (pv 3) (aW eY (aQ cN (hr.mono (by decide)) rfl (ak (pv 5) (ak aA aC))) (pv 4)) (λ_ _=>rfl))))
     cU)
    (aO (jM (yr Za7 Zbf PySem.F.type_list_append iR (pv 3) (ak (pv 6) aC))))))))))
   (aO (bA (pv 3))))),jj (b:=jP) (k:=3) (n:=5) rfl (λps r e=>match ps,e with|[_,_,_],e=>⟨rfl,e⟩) h λio H0 F0 hio=>?_⟩
 exact(aM (eG (i:=3) trivial (qu aP))
   (aM (iD (mX (ao (aj 2) aP)) (aL 4)
    (aM (bh (bH (ao (aj 0) (ao (au aF.up eU aB (aj 4)) aP))) (aL 5))
    (aM (bh (bH (ao (aj 1) (ao (aj 5) (ao (aj 4) aP)))) (aL 6))
    (aM (bh (au aF.up jh (bH (ao (aj 5) (ao aB aP))) aB) (aL 7))
    (aM (gO (K3 (bx (au aF.up U3 (aj 4) aB)) (bx (au aF.up Ie (aj 7) aB)))
     (bh (au aF.up vC (aj 6) (au aV.up M5 (jf 3) (au aF.up jh (bH (ao (aj 5) (ao aB aP))) (aj 4)))) (aL 6))
     cW)
    (aM (gO (K3 (bx (au aF.up U3 (aj 4) aB)) (bx (au aH.up yP (bD 7) (bO aB))))
     (bh (au aV.up M5 (jf 3) (au aF.up jh (bH (ao (aj 5) (ao aB aP))) (aj 4))) (aL 6))
     cW)
    (Ft (aj 6))))))))
   (ou 3 hio)))
theorem sG:bu ["_law_size_here","_law_deeds","_law_block","_law_state","_law_found","_law_deed"] ["_law_size_here","_law_deeds","_law_block","_law_state"] (aG (top 45)):=by walk_at "s"
theorem Qw(T:Txt mg)(D:bj K mg "_law_cuts" (top 45) ["_law_size_here","_law_deeds","_law_block","_law_state"])(Qx:FnAt P w K mg base "lies_on" 3 ["size","thing"] (spM K XR0 rW))(yM:FnAt P w K mg base "cells_cut" 3 ["size","stroke"] (spM K XR0 jZ)):FnAt P w K mg base "_law_cuts" 4 ["_law_size_here","_law_deeds","_law_block","_law_state"] (spM K XR0 j6):=by
 refine D.ok sG (λvs H Q E h=>dh h λps r e=>match ps,e with|[_,_,_,_],_=>rfl) (λf cdv A outer s H vs Q E hr h=>?_)
 refine⟨_,(aq (aR (i:=4) sG.nd rfl (Or.inl rfl) aA)
   (aq (gf ZaM rfl (iw (pv 1)) (cZ (i:=5) sG.nd rfl (Or.inl rfl))
    (aq (gM (PW.pt (uU (zA (qg (bK qC rfl T.jC (by decide +kernel) (ak (pv 5) (ak (HB rfl T.Ol (n:="tuple") (by decide +kernel)) aC))))) (uU (bz (qx hr) (bK du rfl T.lH (by decide +kernel) (ak (pv 5) aC)) aA (bT _)) (uU (bz (qx hr) (uY QL (pv 5) Fd (uX aA)) (dH (ak Ko (ak (pv 2) aC))) (bT _)) (zy (zA (qg (aQ Qx (hr.mono (by decide)) rfl (ak (pv 0) (ak (bc aX (pv 5) aA (λ_ _=>rfl)) aC))))))))))
     (aO (bA ud))
     cU)
    (aq (gM (bz (qx hr) (aW oY (aQ yM (hr.mono (by decide)) rfl (ak (pv 0) (ak (bc aX (pv 5) aA (λ_ _=>rfl)) aC))) (pv 3)) aA (bT _))
     (aO (bA ud))
     cU)
    (aO (aR (i:=4) sG.nd rfl (Or.inl rfl) (aW V5 (pv 4) (aQ yM (hr.mono (by decide)) rfl (ak (pv 0) (ak (bc aX (pv 5) aA (λ_ _=>rfl)) aC)))))))))
   (aO (bA (pv 4))))),dg (b:=nu) (k:=4) (n:=2) rfl (λps r e=>match ps,e with|[_,_,_,_],e=>⟨rfl,e⟩) h λio H0 F0 hio=>?_⟩
 exact(aM (bh aB (aL 4))
   (aM (iD (iy (aj 1)) (aL 5)
    (aM (gO (vA (zQ (qt (z6 aH.up RK (bD 5) HQ))) (vA (bx (au aH.up Ig (bO (gk kZ (bD 5))) (bO aB))) (vA (bx (au aH.up Ig (bO (RC (aj 5) FP (vG aB))) (bO (fK (ao j8 (ao (aj 2) aP)))))) (zQ (qt (bH (ao (aj 0) (ao (au aF.up b7 (aj 5) aB) aP))))))))
     (cG ul)
     cW)
    (aM (gO (bx (au aH.up Ig (bO (au aF.up vC (bH (ao (aj 0) (ao (au aF.up b7 (aj 5) aB) aP))) (aj 3))) (bO aB)))
     (cG ul)
     cW)
    (bh (au aF.up Y8 (aj 4) (bH (ao (aj 0) (ao (au aF.up b7 (aj 5) aB) aP)))) (aL 4)))))
   (cG (aj 4))))
theorem jB:bu ["_law_script","_law_size_here","_law_states_here","_law_plan","_law_left","_law_at","_law_k","_law_start","_law_block","_law_there","_law_away","_law_cut"] ["_law_script"] (aG (top 46)):=by walk_at "s"
theorem Yq(T:Txt mg){f:Addr}{fd:FuncData}(F:Fun K "law" "law" (top 46) f fd)(Kg:FnAt P w K mg base "_law_size" 2 ["_law_cell_here"] (spM K XR0 j5))(nF:FnAt P w K mg base "_law_cell" 1 ["_law_script","_law_k"] (spM K XR0 dD))(Df:FnAt P w K mg base "_law_states" 3 ["_law_script","_law_size_here","_law_many"] (spO K XR0 ik))(cN:FnAt P w K mg base "_law_mixed" 1 ["_law_cell_here","_law_k"] (spM K XR0 bI))(Qy:FnAt P w K mg base "plan_of" 7 ["size","states"] (spO K XR0 rZ))(Kh:FnAt P w K mg base "_law_cuts" 4 ["_law_size_here","_law_deeds","_law_block","_law_state"] (spM K XR0 j6))(jL:FnAt P w K mg base "fewest_strokes" 6 ["size","away","keep"] (spM K XR0 cR)):sI P w K mg base CX0 8 f fd ["_law_script"] (spM K XR0 El):=by
 refine F.ok jB (λvs H Q E h=>dh h λps r e=>match ps,e with|[_],_=>rfl) (λcdv A outer s H vs Q E hr h=>?_)
 refine⟨_,(aq (aR (i:=1) jB.nd rfl (Or.inl rfl) (aQ Kg (hr.mono (by decide)) rfl (ak (aQ nF (hr.mono (by decide)) rfl (ak (pv 0) (ak aA aC))) aC)))
   (aq (aR (i:=2) jB.nd rfl (Or.inl rfl) (aQ Df (hr.mono (by decide)) rfl (ak (pv 0) (ak (pv 1) (ak (aW cH aA (aW eY (aQ cN (hr.mono (by decide)) rfl (ak (aQ nF (hr.mono (by decide)) rfl (ak (pv 0) (ak aA aC))) (ak aA aC))) aA)) aC)))))
   (aq (aR (i:=3) jB.nd rfl (Or.inl rfl) (aQ Qy (hr.mono (by decide)) rfl (ak (pv 1) (ak (pv 2) aC))))
   (aq (aR (i:=4) jB.nd rfl (Or.inl rfl) lX)
   (aq (aR (i:=5) jB.nd rfl (Or.inl rfl) aA)
   (aq (gf ZaM rfl (iQ rfl T.jQ (ak (bK du rfl T.lH (by decide +kernel) (ak (pv 2) aC)) aC)) (cZ (i:=6) jB.nd rfl (Or.inl rfl))
    (aq (aR (i:=7) jB.nd rfl (Or.inl rfl) (pv 5))
    (aq (qj ZaM (PW.pt (Kp (bz qy (pv 5) (bK du rfl T.lH (by decide +kernel) (ak (pv 3) aC)) (bT _)) (Ey (bz (kh hr) (bc aX (bc aX (pv 3) (pv 5) (λ_ _=>rfl)) aA (λ_ _=>rfl)) Ko (bT _)))))
     (aO (aR (i:=5) jB.nd rfl (Or.inl rfl) (aW cH (pv 5) aA))))
    (aq (gM (PW.pt (uU (bz (kh hr) (pv 5) (bK du rfl T.lH (by decide +kernel) (ak (pv 3) aC)) (bT _)) (uU (bz (qx hr) (bc aX (bc aX (pv 3) (pv 5) (λ_ _=>rfl)) aA (λ_ _=>rfl)) Ko (bT _)) (zy (bz (qx hr) (bc aX (bc aX (pv 3) (pv 5) (λ_ _=>rfl)) aA (λ_ _=>rfl)) (pv 6) (bT _))))))
     (aO (bA Hr))
     cU)
    (aq (aR (i:=8) jB.nd rfl (Or.inl rfl) (bc aX (bc aX (pv 3) (pv 5) (λ_ _=>rfl)) aA (λ_ _=>rfl)))
    (aq (aR (i:=9) jB.nd rfl (Or.inl rfl) (DW hr (pv 4) (pv 8) (aW uf (aW zG aA (aW dX (bc aX (pv 1) aA (λ_ _=>rfl)) (bc aX (pv 1) aA (λ_ _=>rfl)))) aA) ⟨rfl,rfl,rfl,rfl⟩))
    (aq (aR (i:=10) jB.nd rfl (Or.inl rfl) (aW uf (pv 9) (aW oY (pv 9) (bc aX (pv 2) (pv 6) (λ_ _=>rfl)))))
    (aq (aR (i:=11) jB.nd rfl (Or.inl rfl) (aQ Kh (hr.mono (by decide)) rfl (ak (pv 1) (ak (uY Mv (pv 3) (uX (pv 7)) (uX (pv 5))) (ak (pv 8) (ak (bc aX (pv 2) (pv 6) (λ_ _=>rfl)) aC))))))
    (aq (gM (PW.pt (uU (bz W7 (pv 11) ud (bT _)) (uU (bz (qx hr) (aW oY (pv 11) (pv 10)) (pv 10) (bT _)) (zy (bz (qx hr) (aW uf (pv 5) (pv 7)) (bK du rfl T.lH (by decide +kernel) (ak (bc aX (aQ jL (hr.mono (by decide)) rfl (ak (pv 1) (ak (pv 10) (ak (bc aX (pv 2) (pv 6) (λ_ _=>rfl)) aC)))) aA (λ_ _=>rfl)) aC)) (bT _))))))
     (aO (bA Hr))
     cU)
    (aq (iu (jD hr) (pv 4) (pv 8) (bc aX (pv 2) (pv 6) (λ_ _=>rfl)) rfl)
    (aO (aR (i:=5) jB.nd rfl (Or.inl rfl) (aW cH (pv 5) aA)))))))))))))
   (aO (bA (rB (kh hr) (pv 5) (bK du rfl T.lH (by decide +kernel) (ak (pv 3) aC)) (bT _)))))))))),dg (b:=N5) (k:=1) (n:=11) rfl (λps r e=>match ps,e with|[_],e=>⟨rfl,e⟩) h λio H0 F0 hio=>?_⟩
 exact(aM (bh (bH (ao (bH (ao (aj 0) (ao aB aP))) aP)) (aL 1))
   (aM (bh (bZ (eE (ao (aj 0) (ao (aj 1) (ao (au aF.up eU aB (au aF.up jh (bH (ao (bH (ao (aj 0) (ao aB aP))) (ao aB aP))) aB)) aP))))) (aL 2))
   (aM (bh (bZ (eE (ao (aj 1) (ao (aj 2) aP)))) (aL 3))
   (aM (eG (i:=4) trivial pB)
   (aM (bh aB (aL 5))
   (aM (iD (mX (ao (gk kZ (bD 2)) aP)) (aL 6)
    (aM (bh (aj 5) (aL 7))
    (aM (zT 600 (K3 (bx (au aF.up Ie (aj 5) (gk kZ (bD 3)))) (bx (au aH.up yP (bO (au aF.up b7 (au aF.up b7 (aj 3) (aj 5)) aB)) (bO j8))))
     (bh (au aF.up eU (aj 5) aB) (aL 5)))
    (aM (gO (vA (bx (au aH.up yP (bD 5) (bO (gk kZ (bD 3))))) (vA (bx (au aH.up Ig (bO (au aF.up b7 (au aF.up b7 (aj 3) (aj 5)) aB)) (bO j8))) (bx (au aH.up Ig (bO (au aF.up b7 (au aF.up b7 (aj 3) (aj 5)) aB)) (bD 6)))))
     (cG HN)
     cW)
    (aM (bh (au aF.up b7 (au aF.up b7 (aj 3) (aj 5)) aB) (aL 8))
    (aM (bh (Io (bL 4) (aj 8) (au aF.up zX (au aF.up Ib aB (au aF.up jU (au aF.up b7 (aj 1) aB) (au aF.up b7 (aj 1) aB))) aB)) (aL 9))
    (aM (bh (au aF.up zX (aj 9) (au aF.up vC (aj 9) (au aF.up b7 (aj 2) (aj 6)))) (aL 10))
    (aM (bh (bH (ao (aj 1) (ao (bZ (Rx (jf 3) (vG (aj 7)) (vG (aj 5)))) (ao (aj 8) (ao (au aF.up b7 (aj 2) (aj 6)) aP))))) (aL 11))
    (aM (gO (vA (bx (au aH.up Y9 (bD 11) ul)) (vA (bx (au aH.up Ig (bO (au aF.up vC (aj 11) (aj 10))) (bD 10))) (bx (au aH.up Ig (bO (au aF.up zX (aj 5) (aj 7))) (bO (gk kZ (bO (au aF.up b7 (bH (ao (aj 1) (ao (aj 10) (ao (au aF.up b7 (aj 2) (aj 6)) aP)))) aB))))))))
     (cG HN)
     cW)
    (aM (mY (au aF.up b7 (aj 2) (aj 6)) (aj 8))
    (bh (au aF.up eU (aj 5) aB) (aL 5))))))))))))
   (cG (au aH.up yP (bD 5) (bO (gk kZ (bD 3)))))))))))
end
theorem Yr{l:PySem.W.OpenLaw}{w:World}{K:Frag}{h:Heap}{mg:Str->Option Value}{fa f0 f1 f2 f3 f4 f5 f6 f7 f8 f9 f10 f11 f12 f13 f14 f15 f16 f17 f18 f19 f20 f21 f22 f23 f24 f25 f26 f27 f28 f29 f30 f31 f32 f33:Addr}(X:K.In h)(G:h.Ns mainGlobals mg)(hfa:mg "law"=some (.ref fa))
  {od0 an0 od1 an1 od2 an2 od3 an3 od4 an4 od5 an5 od6 an6 od7 an7 od8 an8 od9 an9 od10 an10 od11 an11 od12 an12 od13 an13 od14 an14 od15 an15 od16 an16 od17 an17 od18 an18 od19 an19 od20 an20 od21 an21 od22 an22 od23 an23 od24 an24 od25 an25 od26 an26 od27 an27 od28 an28 od29 an29 od30 an30 od31 an31 od32 an32 od33 an33:Option Addr}{sl0 sl1 sl2 sl3 sl4 sl5 sl6 sl7 sl8 sl9 sl10 sl11 sl12 sl13 sl14 sl15 sl16 sl17 sl18 sl19 sl20 sl21 sl22 sl23 sl24 sl25 sl26 sl27 sl28 sl29 sl30 sl31 sl32 sl33:Array (Option Value)}{oc0 kV0 dc0 pm0 cd0 ct0 oc1 kV1 dc1 pm1 cd1 ct1 oc2 kV2 dc2 pm2 cd2 ct2 oc3 kV3 dc3 pm3 cd3 ct3 oc4 kV4 dc4 pm4 cd4 ct4 oc5 kV5 dc5 pm5 cd5 ct5 oc6 kV6 dc6 pm6 cd6 ct6 oc7 kV7 dc7 pm7 cd7 ct7 oc8 kV8 dc8 pm8 cd8 ct8 oc9 kV9 dc9 pm9 cd9 ct9 oc10 kV10 dc10 pm10 cd10 ct10 oc11 kV11 dc11 pm11 cd11 ct11 oc12 kV12 dc12 pm12 cd12 ct12 oc13 kV13 dc13 pm13 cd13 ct13 oc14 kV14 dc14 pm14 cd14 ct14 oc15 kV15 dc15 pm15 cd15 ct15 oc16 kV16 dc16 pm16 cd16 ct16 oc17 kV17 dc17 pm17 cd17 ct17 oc18 kV18 dc18 pm18 cd18 ct18 oc19 kV19 dc19 pm19 cd19 ct19 oc20 kV20 dc20 pm20 cd20 ct20 oc21 kV21 dc21 pm21 cd21 ct21 oc22 kV22 dc22 pm22 cd22 ct22 oc23 kV23 dc23 pm23 cd23 ct23 oc24 kV24 dc24 pm24 cd24 ct24 oc25 kV25 dc25 pm25 cd25 ct25 oc26 kV26 dc26 pm26 cd26 ct26 oc27 kV27 dc27 pm27 cd27 ct27 oc28 kV28 dc28 pm28 cd28 ct28 oc29 kV29 dc29 pm29 cd29 ct29 oc30 kV30 dc30 pm30 cd30 ct30 oc31 kV31 dc31 pm31 cd31 ct31 oc32 kV32 dc32 pm32 cd32 ct32 oc33 kV33 dc33 pm33 cd33 ct33:Value}{t_COLUMN t_CUT t_PRINT t_ROW:Tok}
  (a0:nsIn K mainGlobals "is_whole"=some (some (.ref f0)))(l0:K.lookup f0=some ⟨oc0,od0,.func (fnOf "is_whole" "is_whole" (bB (top 4)) (bw (top 4)) (aG (top 4)) .none kV0 dc0 pm0 an0 cd0 ct0),sl0⟩)(c0:codeIn K cd0 "is_whole"=true)(k0:keepIn K (.ref f0)=true)
  (a1:nsIn K mainGlobals "place_of"=some (some (.ref f1)))(l1:K.lookup f1=some ⟨oc1,od1,.func (fnOf "place_of" "place_of" (bB (top 5)) (bw (top 5)) (aG (top 5)) .none kV1 dc1 pm1 an1 cd1 ct1),sl1⟩)(c1:codeIn K cd1 "place_of"=true)(k1:keepIn K (.ref f1)=true)
  (a2:nsIn K mainGlobals "has_cell"=some (some (.ref f2)))(l2:K.lookup f2=some ⟨oc2,od2,.func (fnOf "has_cell" "has_cell" (bB (top 6)) (bw (top 6)) (aG (top 6)) .none kV2 dc2 pm2 an2 cd2 ct2),sl2⟩)(c2:codeIn K cd2 "has_cell"=true)(k2:keepIn K (.ref f2)=true)
  (a3:nsIn K mainGlobals "all_cells"=some (some (.ref f3)))(l3:K.lookup f3=some ⟨oc3,od3,.func (fnOf "all_cells" "all_cells" (bB (top 7)) (bw (top 7)) (aG (top 7)) .none kV3 dc3 pm3 an3 cd3 ct3),sl3⟩)(c3:codeIn K cd3 "all_cells"=true)(k3:keepIn K (.ref f3)=true)
  (a4:nsIn K mainGlobals "all_of"=some (some (.ref f4)))(l4:K.lookup f4=some ⟨oc4,od4,.func (fnOf "all_of" "all_of" (bB (top 8)) (bw (top 8)) (aG (top 8)) .none kV4 dc4 pm4 an4 cd4 ct4),sl4⟩)(c4:codeIn K cd4 "all_of"=true)(k4:keepIn K (.ref f4)=true)
  (a5:nsIn K mainGlobals "set_of"=some (some (.ref f5)))(l5:K.lookup f5=some ⟨oc5,od5,.func (fnOf "set_of" "set_of" (bB (top 9)) (bw (top 9)) (aG (top 9)) .none kV5 dc5 pm5 an5 cd5 ct5),sl5⟩)(c5:codeIn K cd5 "set_of"=true)(k5:keepIn K (.ref f5)=true)
  (a6:nsIn K mainGlobals "cells_of"=some (some (.ref f6)))(l6:K.lookup f6=some ⟨oc6,od6,.func (fnOf "cells_of" "cells_of" (bB (top 10)) (bw (top 10)) (aG (top 10)) .none kV6 dc6 pm6 an6 cd6 ct6),sl6⟩)(c6:codeIn K cd6 "cells_of"=true)(k6:keepIn K (.ref f6)=true)
  (a7:nsIn K mainGlobals "within"=some (some (.ref f7)))(l7:K.lookup f7=some ⟨oc7,od7,.func (fnOf "within" "within" (bB (top 11)) (bw (top 11)) (aG (top 11)) .none kV7 dc7 pm7 an7 cd7 ct7),sl7⟩)(c7:codeIn K cd7 "within"=true)(k7:keepIn K (.ref f7)=true)
  (a8:nsIn K mainGlobals "walked"=some (some (.ref f8)))(l8:K.lookup f8=some ⟨oc8,od8,.func (fnOf "walked" "walked" (bB (top 13)) (bw (top 13)) (aG (top 13)) .none kV8 dc8 pm8 an8 cd8 ct8),sl8⟩)(c8:codeIn K cd8 "walked"=true)(k8:keepIn K (.ref f8)=true)
  (a9:nsIn K mainGlobals "pair_anew"=some (some (.ref f9)))(l9:K.lookup f9=some ⟨oc9,od9,.func (fnOf "pair_anew" "pair_anew" (bB (top 14)) (bw (top 14)) (aG (top 14)) .none kV9 dc9 pm9 an9 cd9 ct9),sl9⟩)(c9:codeIn K cd9 "pair_anew"=true)(k9:keepIn K (.ref f9)=true)
  (a10:nsIn K mainGlobals "most_pairs"=some (some (.ref f10)))(l10:K.lookup f10=some ⟨oc10,od10,.func (fnOf "most_pairs" "most_pairs" (bB (top 15)) (bw (top 15)) (aG (top 15)) .none kV10 dc10 pm10 an10 cd10 ct10),sl10⟩)(c10:codeIn K cd10 "most_pairs"=true)(k10:keepIn K (.ref f10)=true)
  (a11:nsIn K mainGlobals "short_of_givers"=some (some (.ref f11)))(l11:K.lookup f11=some ⟨oc11,od11,.func (fnOf "short_of_givers" "short_of_givers" (bB (top 16)) (bw (top 16)) (aG (top 16)) .none kV11 dc11 pm11 an11 cd11 ct11),sl11⟩)(c11:codeIn K cd11 "short_of_givers"=true)(k11:keepIn K (.ref f11)=true)
  (a12:nsIn K mainGlobals "states_ahead"=some (some (.ref f12)))(l12:K.lookup f12=some ⟨oc12,od12,.func (fnOf "states_ahead" "states_ahead" (bB (top 18)) (bw (top 18)) (aG (top 18)) .none kV12 dc12 pm12 an12 cd12 ct12),sl12⟩)(c12:codeIn K cd12 "states_ahead"=true)(k12:keepIn K (.ref f12)=true)
  (a13:nsIn K mainGlobals "chains_by"=some (some (.ref f13)))(l13:K.lookup f13=some ⟨oc13,od13,.func (fnOf "chains_by" "chains_by" (bB (top 19)) (bw (top 19)) (aG (top 19)) .none kV13 dc13 pm13 an13 cd13 ct13),sl13⟩)(c13:codeIn K cd13 "chains_by"=true)(k13:keepIn K (.ref f13)=true)
  (a14:nsIn K mainGlobals "fewest_blocks"=some (some (.ref f14)))(l14:K.lookup f14=some ⟨oc14,od14,.func (fnOf "fewest_blocks" "fewest_blocks" (bB (top 20)) (bw (top 20)) (aG (top 20)) .none kV14 dc14 pm14 an14 cd14 ct14),sl14⟩)(c14:codeIn K cd14 "fewest_blocks"=true)(k14:keepIn K (.ref f14)=true)
  (a15:nsIn K mainGlobals "is_stroke"=some (some (.ref f15)))(l15:K.lookup f15=some ⟨oc15,od15,.func (fnOf "is_stroke" "is_stroke" (bB (top 24)) (bw (top 24)) (aG (top 24)) .none kV15 dc15 pm15 an15 cd15 ct15),sl15⟩)(c15:codeIn K cd15 "is_stroke"=true)(k15:keepIn K (.ref f15)=true)
  (a16:nsIn K mainGlobals "lines_of"=some (some (.ref f16)))(l16:K.lookup f16=some ⟨oc16,od16,.func (fnOf "lines_of" "lines_of" (bB (top 25)) (bw (top 25)) (aG (top 25)) .none kV16 dc16 pm16 an16 cd16 ct16),sl16⟩)(c16:codeIn K cd16 "lines_of"=true)(k16:keepIn K (.ref f16)=true)
  (a17:nsIn K mainGlobals "length_of"=some (some (.ref f17)))(l17:K.lookup f17=some ⟨oc17,od17,.func (fnOf "length_of" "length_of" (bB (top 26)) (bw (top 26)) (aG (top 26)) .none kV17 dc17 pm17 an17 cd17 ct17),sl17⟩)(c17:codeIn K cd17 "length_of"=true)(k17:keepIn K (.ref f17)=true)
  (a18:nsIn K mainGlobals "lies_on"=some (some (.ref f18)))(l18:K.lookup f18=some ⟨oc18,od18,.func (fnOf "lies_on" "lies_on" (bB (top 27)) (bw (top 27)) (aG (top 27)) .none kV18 dc18 pm18 an18 cd18 ct18),sl18⟩)(c18:codeIn K cd18 "lies_on"=true)(k18:keepIn K (.ref f18)=true)
  (a19:nsIn K mainGlobals "stroke_cells"=some (some (.ref f19)))(l19:K.lookup f19=some ⟨oc19,od19,.func (fnOf "stroke_cells" "stroke_cells" (bB (top 28)) (bw (top 28)) (aG (top 28)) .none kV19 dc19 pm19 an19 cd19 ct19),sl19⟩)(c19:codeIn K cd19 "stroke_cells"=true)(k19:keepIn K (.ref f19)=true)
  (a20:nsIn K mainGlobals "cells_cut"=some (some (.ref f20)))(l20:K.lookup f20=some ⟨oc20,od20,.func (fnOf "cells_cut" "cells_cut" (bB (top 29)) (bw (top 29)) (aG (top 29)) .none kV20 dc20 pm20 an20 cd20 ct20),sl20⟩)(c20:codeIn K cd20 "cells_cut"=true)(k20:keepIn K (.ref f20)=true)
  (a21:nsIn K mainGlobals "longest_strokes"=some (some (.ref f21)))(l21:K.lookup f21=some ⟨oc21,od21,.func (fnOf "longest_strokes" "longest_strokes" (bB (top 30)) (bw (top 30)) (aG (top 30)) .none kV21 dc21 pm21 an21 cd21 ct21),sl21⟩)(c21:codeIn K cd21 "longest_strokes"=true)(k21:keepIn K (.ref f21)=true)
  (a22:nsIn K mainGlobals "longest_by_cell"=some (some (.ref f22)))(l22:K.lookup f22=some ⟨oc22,od22,.func (fnOf "longest_by_cell" "longest_by_cell" (bB (top 31)) (bw (top 31)) (aG (top 31)) .none kV22 dc22 pm22 an22 cd22 ct22),sl22⟩)(c22:codeIn K cd22 "longest_by_cell"=true)(k22:keepIn K (.ref f22)=true)
  (a23:nsIn K mainGlobals "crossings"=some (some (.ref f23)))(l23:K.lookup f23=some ⟨oc23,od23,.func (fnOf "crossings" "crossings" (bB (top 32)) (bw (top 32)) (aG (top 32)) .none kV23 dc23 pm23 an23 cd23 ct23),sl23⟩)(c23:codeIn K cd23 "crossings"=true)(k23:keepIn K (.ref f23)=true)
  (a24:nsIn K mainGlobals "fewest_strokes"=some (some (.ref f24)))(l24:K.lookup f24=some ⟨oc24,od24,.func (fnOf "fewest_strokes" "fewest_strokes" (bB (top 33)) (bw (top 33)) (aG (top 33)) .none kV24 dc24 pm24 an24 cd24 ct24),sl24⟩)(c24:codeIn K cd24 "fewest_strokes"=true)(k24:keepIn K (.ref f24)=true)
  (a25:nsIn K mainGlobals "blocks_by_state"=some (some (.ref f25)))(l25:K.lookup f25=some ⟨oc25,od25,.func (fnOf "blocks_by_state" "blocks_by_state" (bB (top 37)) (bw (top 37)) (aG (top 37)) .none kV25 dc25 pm25 an25 cd25 ct25),sl25⟩)(c25:codeIn K cd25 "blocks_by_state"=true)(k25:keepIn K (.ref f25)=true)
  (a26:nsIn K mainGlobals "plan_of"=some (some (.ref f26)))(l26:K.lookup f26=some ⟨oc26,od26,.func (fnOf "plan_of" "plan_of" (bB (top 38)) (bw (top 38)) (aG (top 38)) .none kV26 dc26 pm26 an26 cd26 ct26),sl26⟩)(c26:codeIn K cd26 "plan_of"=true)(k26:keepIn K (.ref f26)=true)
  (a27:nsIn K mainGlobals "_law_cell"=some (some (.ref f27)))(l27:K.lookup f27=some ⟨oc27,od27,.func (fnOf "_law_cell" "_law_cell" (bB (top 40)) (bw (top 40)) (aG (top 40)) .none kV27 dc27 pm27 an27 cd27 ct27),sl27⟩)(c27:codeIn K cd27 "_law_cell"=true)(k27:keepIn K (.ref f27)=true)
  (a28:nsIn K mainGlobals "_law_mixed"=some (some (.ref f28)))(l28:K.lookup f28=some ⟨oc28,od28,.func (fnOf "_law_mixed" "_law_mixed" (bB (top 41)) (bw (top 41)) (aG (top 41)) .none kV28 dc28 pm28 an28 cd28 ct28),sl28⟩)(c28:codeIn K cd28 "_law_mixed"=true)(k28:keepIn K (.ref f28)=true)
  (a29:nsIn K mainGlobals "_law_size"=some (some (.ref f29)))(l29:K.lookup f29=some ⟨oc29,od29,.func (fnOf "_law_size" "_law_size" (bB (top 42)) (bw (top 42)) (aG (top 42)) .none kV29 dc29 pm29 an29 cd29 ct29),sl29⟩)(c29:codeIn K cd29 "_law_size"=true)(k29:keepIn K (.ref f29)=true)
  (a30:nsIn K mainGlobals "_law_set"=some (some (.ref f30)))(l30:K.lookup f30=some ⟨oc30,od30,.func (fnOf "_law_set" "_law_set" (bB (top 43)) (bw (top 43)) (aG (top 43)) .none kV30 dc30 pm30 an30 cd30 ct30),sl30⟩)(c30:codeIn K cd30 "_law_set"=true)(k30:keepIn K (.ref f30)=true)
  (a31:nsIn K mainGlobals "_law_states"=some (some (.ref f31)))(l31:K.lookup f31=some ⟨oc31,od31,.func (fnOf "_law_states" "_law_states" (bB (top 44)) (bw (top 44)) (aG (top 44)) .none kV31 dc31 pm31 an31 cd31 ct31),sl31⟩)(c31:codeIn K cd31 "_law_states"=true)(k31:keepIn K (.ref f31)=true)
  (a32:nsIn K mainGlobals "_law_cuts"=some (some (.ref f32)))(l32:K.lookup f32=some ⟨oc32,od32,.func (fnOf "_law_cuts" "_law_cuts" (bB (top 45)) (bw (top 45)) (aG (top 45)) .none kV32 dc32 pm32 an32 cd32 ct32),sl32⟩)(c32:codeIn K cd32 "_law_cuts"=true)(k32:keepIn K (.ref f32)=true)
  (a33:nsIn K mainGlobals "law"=some (some (.ref f33)))(l33:K.lookup f33=some ⟨oc33,od33,.func (fnOf "law" "law" (bB (top 46)) (bw (top 46)) (aG (top 46)) .none kV33 dc33 pm33 an33 cd33 ct33),sl33⟩)(c33:codeIn K cd33 "law"=true)(k33:keepIn K (.ref f33)=true)
  (Ub:nsIn K mainGlobals "all"=some none)(Mg:nsIn K mainGlobals "bool"=some none)(Mh:nsIn K mainGlobals "dict"=some none)(rA:nsIn K mainGlobals "enumerate"=some none)(Uc:nsIn K mainGlobals "int"=some none)(pR:nsIn K mainGlobals "isinstance"=some none)(Ud:nsIn K mainGlobals "len"=some none)(Mi:nsIn K mainGlobals "list"=some none)(Hi:nsIn K mainGlobals "range"=some none)(Cr:nsIn K mainGlobals "sorted"=some none)(Ue:nsIn K mainGlobals "str"=some none)(Hj:nsIn K mainGlobals "tuple"=some none)(Ug:nsIn K mainGlobals "zip"=some none)(Cu:nsIn K mainGlobals "COLUMN"=some (some (.str "column" t_COLUMN)))(Uh:nsIn K mainGlobals "CUT"=some (some (.str "cut" t_CUT)))(Hk:nsIn K mainGlobals "PRINT"=some (some (.str "print" t_PRINT)))(Ui:nsIn K mainGlobals "ROW"=some (some (.str "row" t_ROW))) :
  ∃ fd:FuncData,(∀ (s:Shared) (v:Value),BindsTo s fd ⟨[v],[]⟩ [("_law_script",v)])/\∀ base:Heap,K.In base->base.Ns mainGlobals mg->sI l.prog w K mg base CX0 8 fa fd ["_law_script"] (spM K XR0 El):=by
 have e:=hfa.symm.trans (Zaz X G a33);cases e;have T:Txt mg:=⟨trivial,ZaV X G Ub,ZaV X G Mg,ZaV X G Mh,ZaV X G rA,ZaV X G Uc,ZaV X G pR,ZaV X G Ud,ZaV X G Mi,ZaV X G Hi,ZaV X G Cr,ZaV X G Ue,ZaV X G Hj,ZaV X G Ug,⟨_,Zaz X G Cu⟩,⟨_,Zaz X G Uh⟩,⟨_,Zaz X G Hk⟩,⟨_,Zaz X G Ui⟩⟩;have F0:=bW (st:=top 4) l0 c0 k0;have D0:bj K mg "is_whole" (top 4) ["thing"]:=⟨⟨_,_,Zaz X G a0,F0,F0.binds λ_ _ _ _ _ _ us hl=>by obtain⟨_,rfl⟩:=CK hl;rfl⟩⟩
 have F1:=bW (st:=top 5) l1 c1 k1;have D1:bj K mg "place_of" (top 5) ["size","cell"]:=⟨⟨_,_,Zaz X G a1,F1,F1.binds λ_ _ _ _ _ _ us hl=>by obtain⟨_,_,rfl⟩:=uD hl;rfl⟩⟩
 have F2:=bW (st:=top 6) l2 c2 k2;have D2:bj K mg "has_cell" (top 6) ["size","some","cell"]:=⟨⟨_,_,Zaz X G a2,F2,F2.binds λ_ _ _ _ _ _ us hl=>by obtain⟨_,_,_,rfl⟩:=Jr hl;rfl⟩⟩
 have F3:=bW (st:=top 7) l3 c3 k3;have D3:bj K mg "all_cells" (top 7) ["size"]:=⟨⟨_,_,Zaz X G a3,F3,F3.binds λ_ _ _ _ _ _ us hl=>by obtain⟨_,rfl⟩:=CK hl;rfl⟩⟩
 have F4:=bW (st:=top 8) l4 c4 k4;have D4:bj K mg "all_of" (top 8) ["size"]:=⟨⟨_,_,Zaz X G a4,F4,F4.binds λ_ _ _ _ _ _ us hl=>by obtain⟨_,rfl⟩:=CK hl;rfl⟩⟩
 have F5:=bW (st:=top 9) l5 c5 k5;have D5:bj K mg "set_of" (top 9) ["size","cells"]:=⟨⟨_,_,Zaz X G a5,F5,F5.binds λ_ _ _ _ _ _ us hl=>by obtain⟨_,_,rfl⟩:=uD hl;rfl⟩⟩
 have F6:=bW (st:=top 10) l6 c6 k6;have D6:bj K mg "cells_of" (top 10) ["size","some"]:=⟨⟨_,_,Zaz X G a6,F6,F6.binds λ_ _ _ _ _ _ us hl=>by obtain⟨_,_,rfl⟩:=uD hl;rfl⟩⟩
 have F7:=bW (st:=top 11) l7 c7 k7;have D7:bj K mg "within" (top 11) ["one","other"]:=⟨⟨_,_,Zaz X G a7,F7,F7.binds λ_ _ _ _ _ _ us hl=>by obtain⟨_,_,rfl⟩:=uD hl;rfl⟩⟩
 have F8:=bW (st:=top 13) l8 c8 k8;have D8:bj K mg "walked" (top 13) ["wishes","asker_of","starts"]:=⟨⟨_,_,Zaz X G a8,F8,F8.binds λ_ _ _ _ _ _ us hl=>by obtain⟨_,_,_,rfl⟩:=Jr hl;rfl⟩⟩
 have F9:=bW (st:=top 14) l9 c9 k9;have D9:bj K mg "pair_anew" (top 14) ["giver_of","asker_of","came_by","free"]:=⟨⟨_,_,Zaz X G a9,F9,F9.binds λ_ _ _ _ _ _ us hl=>by obtain⟨_,_,_,_,rfl⟩:=X5 hl;rfl⟩⟩
 have F10:=bW (st:=top 15) l10 c10 k10;have D10:bj K mg "most_pairs" (top 15) ["wishes"]:=⟨⟨_,_,Zaz X G a10,F10,F10.binds λ_ _ _ _ _ _ us hl=>by obtain⟨_,rfl⟩:=CK hl;rfl⟩⟩
 have F11:=bW (st:=top 16) l11 c11 k11;have D11:bj K mg "short_of_givers" (top 16) ["wishes","giver_of"]:=⟨⟨_,_,Zaz X G a11,F11,F11.binds λ_ _ _ _ _ _ us hl=>by obtain⟨_,_,rfl⟩:=uD hl;rfl⟩⟩
 have F12:=bW (st:=top 18) l12 c12 k12;have D12:bj K mg "states_ahead" (top 18) ["states","number"]:=⟨⟨_,_,Zaz X G a12,F12,F12.binds λ_ _ _ _ _ _ us hl=>by obtain⟨_,_,rfl⟩:=uD hl;rfl⟩⟩
 have F13:=bW (st:=top 19) l13 c13 k13;have D13:bj K mg "chains_by" (top 19) ["many","ahead_of"]:=⟨⟨_,_,Zaz X G a13,F13,F13.binds λ_ _ _ _ _ _ us hl=>by obtain⟨_,_,rfl⟩:=uD hl;rfl⟩⟩
 have F14:=bW (st:=top 20) l14 c14 k14;have D14:bj K mg "fewest_blocks" (top 20) ["states"]:=⟨⟨_,_,Zaz X G a14,F14,F14.binds λ_ _ _ _ _ _ us hl=>by obtain⟨_,rfl⟩:=CK hl;rfl⟩⟩
 have F15:=bW (st:=top 24) l15 c15 k15;have D15:bj K mg "is_stroke" (top 24) ["thing"]:=⟨⟨_,_,Zaz X G a15,F15,F15.binds λ_ _ _ _ _ _ us hl=>by obtain⟨_,rfl⟩:=CK hl;rfl⟩⟩
 have F16:=bW (st:=top 25) l16 c16 k16;have D16:bj K mg "lines_of" (top 25) ["size","kind"]:=⟨⟨_,_,Zaz X G a16,F16,F16.binds λ_ _ _ _ _ _ us hl=>by obtain⟨_,_,rfl⟩:=uD hl;rfl⟩⟩
 have F17:=bW (st:=top 26) l17 c17 k17;have D17:bj K mg "length_of" (top 26) ["size","kind"]:=⟨⟨_,_,Zaz X G a17,F17,F17.binds λ_ _ _ _ _ _ us hl=>by obtain⟨_,_,rfl⟩:=uD hl;rfl⟩⟩
 have F18:=bW (st:=top 27) l18 c18 k18;have D18:bj K mg "lies_on" (top 27) ["size","thing"]:=⟨⟨_,_,Zaz X G a18,F18,F18.binds λ_ _ _ _ _ _ us hl=>by obtain⟨_,_,rfl⟩:=uD hl;rfl⟩⟩
 have F19:=bW (st:=top 28) l19 c19 k19;have D19:bj K mg "stroke_cells" (top 28) ["stroke"]:=⟨⟨_,_,Zaz X G a19,F19,F19.binds λ_ _ _ _ _ _ us hl=>by obtain⟨_,rfl⟩:=CK hl;rfl⟩⟩
 have F20:=bW (st:=top 29) l20 c20 k20;have D20:bj K mg "cells_cut" (top 29) ["size","stroke"]:=⟨⟨_,_,Zaz X G a20,F20,F20.binds λ_ _ _ _ _ _ us hl=>by obtain⟨_,_,rfl⟩:=uD hl;rfl⟩⟩
 have F21:=bW (st:=top 30) l21 c21 k21;have D21:bj K mg "longest_strokes" (top 30) ["size","keep","kind","line"]:=⟨⟨_,_,Zaz X G a21,F21,F21.binds λ_ _ _ _ _ _ us hl=>by obtain⟨_,_,_,_,rfl⟩:=X5 hl;rfl⟩⟩
 have F22:=bW (st:=top 31) l22 c22 k22;have D22:bj K mg "longest_by_cell" (top 31) ["size","keep","kind"]:=⟨⟨_,_,Zaz X G a22,F22,F22.binds λ_ _ _ _ _ _ us hl=>by obtain⟨_,_,_,rfl⟩:=Jr hl;rfl⟩⟩
 have F23:=bW (st:=top 32) l23 c23 k23;have D23:bj K mg "crossings" (top 32) ["size","away","keep"]:=⟨⟨_,_,Zaz X G a23,F23,F23.binds λ_ _ _ _ _ _ us hl=>by obtain⟨_,_,_,rfl⟩:=Jr hl;rfl⟩⟩
 have F24:=bW (st:=top 33) l24 c24 k24;have D24:bj K mg "fewest_strokes" (top 33) ["size","away","keep"]:=⟨⟨_,_,Zaz X G a24,F24,F24.binds λ_ _ _ _ _ _ us hl=>by obtain⟨_,_,_,rfl⟩:=Jr hl;rfl⟩⟩
 have F25:=bW (st:=top 37) l25 c25 k25;have D25:bj K mg "blocks_by_state" (top 37) ["states"]:=⟨⟨_,_,Zaz X G a25,F25,F25.binds λ_ _ _ _ _ _ us hl=>by obtain⟨_,rfl⟩:=CK hl;rfl⟩⟩
 have F26:=bW (st:=top 38) l26 c26 k26;have D26:bj K mg "plan_of" (top 38) ["size","states"]:=⟨⟨_,_,Zaz X G a26,F26,F26.binds λ_ _ _ _ _ _ us hl=>by obtain⟨_,_,rfl⟩:=uD hl;rfl⟩⟩
 have F27:=bW (st:=top 40) l27 c27 k27;have D27:bj K mg "_law_cell" (top 40) ["_law_script","_law_k"]:=⟨⟨_,_,Zaz X G a27,F27,F27.binds λ_ _ _ _ _ _ us hl=>by obtain⟨_,_,rfl⟩:=uD hl;rfl⟩⟩
 have F28:=bW (st:=top 41) l28 c28 k28;have D28:bj K mg "_law_mixed" (top 41) ["_law_cell_here","_law_k"]:=⟨⟨_,_,Zaz X G a28,F28,F28.binds λ_ _ _ _ _ _ us hl=>by obtain⟨_,_,rfl⟩:=uD hl;rfl⟩⟩
 have F29:=bW (st:=top 42) l29 c29 k29;have D29:bj K mg "_law_size" (top 42) ["_law_cell_here"]:=⟨⟨_,_,Zaz X G a29,F29,F29.binds λ_ _ _ _ _ _ us hl=>by obtain⟨_,rfl⟩:=CK hl;rfl⟩⟩
 have F30:=bW (st:=top 43) l30 c30 k30;have D30:bj K mg "_law_set" (top 43) ["_law_size_here","_law_cell_here","_law_k"]:=⟨⟨_,_,Zaz X G a30,F30,F30.binds λ_ _ _ _ _ _ us hl=>by obtain⟨_,_,_,rfl⟩:=Jr hl;rfl⟩⟩
 have F31:=bW (st:=top 44) l31 c31 k31;have D31:bj K mg "_law_states" (top 44) ["_law_script","_law_size_here","_law_many"]:=⟨⟨_,_,Zaz X G a31,F31,F31.binds λ_ _ _ _ _ _ us hl=>by obtain⟨_,_,_,rfl⟩:=Jr hl;rfl⟩⟩
 have F32:=bW (st:=top 45) l32 c32 k32;have D32:bj K mg "_law_cuts" (top 45) ["_law_size_here","_law_deeds","_law_block","_law_state"]:=⟨⟨_,_,Zaz X G a32,F32,F32.binds λ_ _ _ _ _ _ us hl=>by obtain⟨_,_,_,_,rfl⟩:=X5 hl;rfl⟩⟩
 have F33:=bW (st:=top 46) l33 c33 k33;refine⟨fnOf "law" "law" (bB (top 46)) (bw (top 46)) (aG (top 46)) .none kV33 dc33 pm33 an33 cd33 ct33,λs v=>.of_eq rfl,λbase _ _=>?_⟩;have G0:=JW (P:=l.prog) (w:=w) (base:=base) T D0;have G1:=JZ (P:=l.prog) (w:=w) (base:=base) T D1;have G2:=J1 (P:=l.prog) (w:=w) (base:=base) T D2 G1;have G3:=GQ (P:=l.prog) (w:=w) (base:=base) T D3;have G4:=Qo (P:=l.prog) (w:=w) (base:=base) T D4;have G5:=Qp (P:=l.prog) (w:=w) (base:=base) T D5 G1;have G6:=J3 (P:=l.prog) (w:=w) (base:=base) T D6 G3 G2;have G7:=Qs (P:=l.prog) (w:=w) (base:=base) T D7;have G8:=Qt (P:=l.prog) (w:=w) (base:=base) T D8;have G9:=GR (P:=l.prog) (w:=w) (base:=base) T D9;have G10:=Dc (P:=l.prog) (w:=w) (base:=base) T D10 G8 G9;have G11:=uK (P:=l.prog) (w:=w) (base:=base) T D11 G8;have G12:=J4 (P:=l.prog) (w:=w) (base:=base) T D8;have G13:=Cj (P:=l.prog) (w:=w) (base:=base) T D9;have G14:=yU (P:=l.prog) (w:=w) (base:=base) T D10 G12 G13;have G15:=qY (P:=l.prog) (w:=w) (base:=base) T D11 G12;have G16:=yW (P:=l.prog) (w:=w) (base:=base) T D12 G7;have G17:=GX (P:=l.prog) (w:=w) (base:=base) T D13;have G18:=yh (P:=l.prog) (w:=w) (base:=base) T D14 G16 G14 G15 G17;have G19:=Ha (P:=l.prog) (w:=w) (base:=base) T D15 G0;have G20:=J6 (P:=l.prog) (w:=w) (base:=base) T D16;have G21:=Hc (P:=l.prog) (w:=w) (base:=base) T D17;have G22:=LC (P:=l.prog) (w:=w) (base:=base) T D18 G19 G20 G21;have G23:=yZ (P:=l.prog) (w:=w) (base:=base) T D19;have G24:=Hf (P:=l.prog) (w:=w) (base:=base) T D20 G5 G23;have G25:=uL (P:=l.prog) (w:=w) (base:=base) T D21 G21 G23 G2;have G26:=uM (P:=l.prog) (w:=w) (base:=base) T D22 G20 G25 G23;have G27:=Hg (P:=l.prog) (w:=w) (base:=base) T D23 G26 G6;have G28:=xm (P:=l.prog) (w:=w) (base:=base) T D24 G6 G27 G10 G11 G5;have G29:=uN (P:=l.prog) (w:=w) (base:=base) T D25 G18;have G30:=LK (P:=l.prog) (w:=w) (base:=base) T D26 G29 G4 G28;have G31:=Qu (P:=l.prog) (w:=w) (base:=base) T D27;have G32:=LQ (P:=l.prog) (w:=w) (base:=base) T D28;have G33:=Qv (P:=l.prog) (w:=w) (base:=base) T D29 G32;have G34:=T7 (P:=l.prog) (w:=w) (base:=base) T D30 G32;have G35:=J7 (P:=l.prog) (w:=w) (base:=base) T D31 G31 G34 G32;have G36:=Qw (P:=l.prog) (w:=w) (base:=base) T D32 G22 G24;exact Yq (P:=l.prog) (w:=w) (base:=base) T F33 G33 G31 G35 G32 G30 G36 G28
theorem walk{l:PySem.W.OpenLaw}{q:Program}{loose:List Str}{XP:(Str->Option Value)->Heap->Prop}{YP:World->Heap->Prop}{d:DefRec}{K:Params->Frag}(hn:l.most=some 63)(hdf:d.params.defaults=[])
  (hY:∀ (w:World) (h:Heap),YP w h->(K w.params).In h)
  (F:∀ (w:World) (mg:Str->Option Value) (fa:Addr) (h:Heap),(K w.params).In h->h.Ns mainGlobals mg->mg d.name=some (.ref fa) ->
   ∃ fd:FuncData,(∀ (s:Shared) (u:Value),BindsTo s fd ⟨[u],[]⟩ [("_law_script",u)])/\∀ base:Heap,(K w.params).In base->base.Ns mainGlobals mg->sI l.prog w (K w.params) mg base CX0 8 fa fd ["_law_script"] (spM (K w.params) XR0 El))
  (main:∀ ns:List Int,ns.length<=63->El [.lst (ns.map PV.int)]=some (.ok (.bl true))) :
  PySem.W.WalkO q loose XP YP l.row.toRowW d [] (λf vs=>PySem.call f vs):=
 L2.Ux (n:=63) (k:=8) (x:="_law_script") (CX:=λ_=>CX0) (sp:=λw=>spM (K w.params) XR0 El) hn (by decide) hdf ⟨rfl,by decide,by decide⟩ hY F (λw H a ns hl _ hS=>⟨[.lst (ns.map PV.int)],H,.ok (.bl true),aU.refl _,bG.nil.cons (.lst hS (bG.vq (K:=K w.params) (F:=H) ns).1 (bG.vq ns).2),main ns hl,λv F' H' _ rv=>Rep.je rv⟩) λ_ _ _ _ _ z=>z
end MM
open PySem PySem.W PyProof.Rows
set_option maxRecDepth 100000 in
set_option maxHeartbeats 0 in
theorem PySem.Challenge.cw_lostblock_k36_whole_plan_by_fewest_strok_holds : PySem.Challenge.rw_lostblock_k36_whole_plan_by_fewest_strok.Holds := by
 w_on;o_law;o_head (kHook MM.KK [3,52,53,59,60,66,67,71,72,78,79,85,86,90,91,97,98,104,105,111,112,118,119,123,124,128,129,135,136,140,141,145,146,152,153,159,160,166,167,171,172,178,179,183,184,190,191,197,198,202,203,209,210,214,215,221,222,228,229,235,236,242,243,249,250,256,257,263,264] (λ_=>by kernel_rfl));(case hw=>w_witness2)
 k_fill
 refine MM.walk (l:=PySem.Challenge.rw_lostblock_k36_whole_plan_by_fewest_strok) rfl rfl (λw h Y=>PySem.W.kIn_of Y) ?F MM.law_main
 case F=>
  intro w mg fa h KX G hmg;refine' MM.Yr KX G hmg ?a0 ?l0 ?c0 ?k0 ?a1 ?l1 ?c1 ?k1 ?a2 ?l2 ?c2 ?k2 ?a3 ?l3 ?c3 ?k3 ?a4 ?l4 ?c4 ?k4 ?a5 ?l5 ?c5 ?k5 ?a6 ?l6 ?c6 ?k6 ?a7 ?l7 ?c7 ?k7 ?a8 ?l8 ?c8 ?k8 ?a9 ?l9 ?c9 ?k9 ?a10 ?l10 ?c10 ?k10 ?a11 ?l11 ?c11 ?k11 ?a12 ?l12 ?c12 ?k12 ?a13 ?l13 ?c13 ?k13 ?a14 ?l14 ?c14 ?k14 ?a15 ?l15 ?c15 ?k15 ?a16 ?l16 ?c16 ?k16 ?a17 ?l17 ?c17 ?k17 ?a18 ?l18 ?c18 ?k18 ?a19 ?l19 ?c19 ?k19 ?a20 ?l20 ?c20 ?k20 ?a21 ?l21 ?c21 ?k21 ?a22 ?l22 ?c22 ?k22 ?a23 ?l23 ?c23 ?k23 ?a24 ?l24 ?c24 ?k24 ?a25 ?l25 ?c25 ?k25 ?a26 ?l26 ?c26 ?k26 ?a27 ?l27 ?c27 ?k27 ?a28 ?l28 ?c28 ?k28 ?a29 ?l29 ?c29 ?k29 ?a30 ?l30 ?c30 ?k30 ?a31 ?l31 ?c31 ?k31 ?a32 ?l32 ?c32 ?k32 ?a33 ?l33 ?c33 ?k33 ?Ub ?Mg ?Mh ?rA ?Uc ?pR ?Ud ?Mi ?Hi ?Cr ?Ue ?Hj ?Ug ?Cu ?Uh ?Hk ?Ui
  (case a0=>k_is)
  (case l0=>k_is)
  (case c0=>k_is)
  (case k0=>k_is)
  (case a1=>k_is)
  (case l1=>k_is)
  (case c1=>k_is)
  (case k1=>k_is)
  (case a2=>k_is)
  (case l2=>k_is)
  (case c2=>k_is)
  (case k2=>k_is)
  (case a3=>k_is)
  (case l3=>k_is)
  (case c3=>k_is)
  (case k3=>k_is)
  (case a4=>k_is)
  (case l4=>k_is)
  (case c4=>k_is)
  (case k4=>k_is)
  (case a5=>k_is)
  (case l5=>k_is)
  (case c5=>k_is)
  (case k5=>k_is)
  (case a6=>k_is)
  (case l6=>k_is)
  (case c6=>k_is)
  (case k6=>k_is)
  (case a7=>k_is)
  (case l7=>k_is)
  (case c7=>k_is)
  (case k7=>k_is)
  (case a8=>k_is)
  (case l8=>k_is)
  (case c8=>k_is)
  (case k8=>k_is)
  (case a9=>k_is)
  (case l9=>k_is)
  (case c9=>k_is)
  (case k9=>k_is)
  (case a10=>k_is)
  (case l10=>k_is)
  (case c10=>k_is)
  (case k10=>k_is)
  (case a11=>k_is)
  (case l11=>k_is)
  (case c11=>k_is)
  (case k11=>k_is)
  (case a12=>k_is)
  (case l12=>k_is)
  (case c12=>k_is)
  (case k12=>k_is)
  (case a13=>k_is)
  (case l13=>k_is)
  (case c13=>k_is)
  (case k13=>k_is)
  (case a14=>k_is)
  (case l14=>k_is)
  (case c14=>k_is)
  (case k14=>k_is)
  (case a15=>k_is)
  (case l15=>k_is)
  (case c15=>k_is)
  (case k15=>k_is)
  (case a16=>k_is)
  (case l16=>k_is)
  (case c16=>k_is)
  (case k16=>k_is)
  (case a17=>k_is)
  (case l17=>k_is)
  (case c17=>k_is)
  (case k17=>k_is)
  (case a18=>k_is)
  (case l18=>k_is)
  (case c18=>k_is)
  (case k18=>k_is)
  (case a19=>k_is)
  (case l19=>k_is)
  (case c19=>k_is)
  (case k19=>k_is)
  (case a20=>k_is)
  (case l20=>k_is)
  (case c20=>k_is)
  (case k20=>k_is)
  (case a21=>k_is)
  (case l21=>k_is)
  (case c21=>k_is)
  (case k21=>k_is)
  (case a22=>k_is)
  (case l22=>k_is)
  (case c22=>k_is)
  (case k22=>k_is)
  (case a23=>k_is)
  (case l23=>k_is)
  (case c23=>k_is)
  (case k23=>k_is)
  (case a24=>k_is)
  (case l24=>k_is)
  (case c24=>k_is)
  (case k24=>k_is)
  (case a25=>k_is)
  (case l25=>k_is)
  (case c25=>k_is)
  (case k25=>k_is)
  (case a26=>k_is)
  (case l26=>k_is)
  (case c26=>k_is)
  (case k26=>k_is)
  (case a27=>k_is)
  (case l27=>k_is)
  (case c27=>k_is)
  (case k27=>k_is)
  (case a28=>k_is)
  (case l28=>k_is)
  (case c28=>k_is)
  (case k28=>k_is)
  (case a29=>k_is)
  (case l29=>k_is)
  (case c29=>k_is)
  (case k29=>k_is)
  (case a30=>k_is)
  (case l30=>k_is)
  (case c30=>k_is)
  (case k30=>k_is)
  (case a31=>k_is)
  (case l31=>k_is)
  (case c31=>k_is)
  (case k31=>k_is)
  (case a32=>k_is)
  (case l32=>k_is)
  (case c32=>k_is)
  (case k32=>k_is)
  (case a33=>k_is)
  (case l33=>k_is)
  (case c33=>k_is)
  (case k33=>k_is)
  (case Ub=>k_is)
  (case Mg=>k_is)
  (case Mh=>k_is)
  (case rA=>k_is)
  (case Uc=>k_is)
  (case pR=>k_is)
  (case Ud=>k_is)
  (case Mi=>k_is)
  (case Hi=>k_is)
  (case Cr=>k_is)
  (case Ue=>k_is)
  (case Hj=>k_is)
  (case Ug=>k_is)
  (case Cu=>k_is)
  (case Uh=>k_is)
  (case Hk=>k_is)
  (case Ui=>k_is)
#print axioms PySem.Challenge.cw_lostblock_k36_whole_plan_by_fewest_strok_holds
