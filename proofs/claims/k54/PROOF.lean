import PyProof.Rows.All
import Wide.All
import OpenK.AllK
import Wide.FinOn
import Lean
import PyProof.EqAt
import PyProof.EqKinds
import PyProof.TupleCall
import PySem.Challenge.RW_lostblock_k54_cut_in_a_shop
set_option Elab.async false
set_option linter.all false
set_option maxRecDepth 100000
def PySem.W.Fast.tw7142985723237108919:=()
def PySem.W.Fast.tw18213402099024214926:=()
def PySem.W.Fast.tw5819129952604948189:=()
def PySem.W.Fast.tw14323961058231585745:=()
def PySem.W.Fast.tw8683218459634320160:=()
def PySem.W.Fast.tw6346832256720750921:=()
def PySem.W.Fast.tw4218204850502657514:=()
def PySem.W.Fast.tw1471071482104340369:=()
def PySem.W.Fast.tw1283296715985449892:=()
def PySem.W.Fast.tw13320247099806169806:=()
def PySem.W.Fast.tw16837840312041568077:=()
def PySem.W.Fast.tw9757662371242740927:=()
def PySem.W.Fast.tw4118490057276585366:=()
def PySem.W.Fast.tw18336140298498129604:=()
def PySem.W.Fast.tw10098935869562258694:=()
def PySem.W.Fast.tw9833594594434037711:=()
def PySem.W.Fast.tw9843150732729248293:=()
def PySem.W.Fast.tw16330542708864533765:=()
def PySem.W.Fast.tw2983353028148767494:=()
def PySem.W.Fast.tw14854689588352567162:=()
def PySem.W.Fast.tw8179800145593657197:=()
def PySem.W.Fast.tw6272834311721099853:=()
def PySem.W.Fast.tw6797695611867570934:=()
def PySem.W.Fast.tw15451205071072921471:=()
def PySem.W.Fast.tw12529247639249439087:=()
def PySem.W.Fast.tw7559336540517240939:=()
def PySem.W.Fast.tw11173403999476815173:=()
def PySem.W.Fast.tw15398725429369378713:=()
def PySem.W.Fast.tw2134910168325375632:=()
def PySem.W.Fast.tw13548424000383557864:=()
def PySem.W.Fast.tw486456237716030318:=()
def PySem.W.Fast.tw3479567688899378836:=()
def PySem.W.Fast.tw16040449384152587395:=()
def PySem.W.Fast.tw13001293513514771191:=()
def PySem.W.Fast.tw14513811732923520067:=()
def PySem.W.Fast.tw4943735974301215102:=()
def PySem.W.Fast.tw15082882566915660932:=()
def PySem.W.Fast.tw4816344207317084799:=()
def PySem.W.Fast.tw13053647808219035354:=()
def PySem.W.Fast.tw9212347425025878256:=()
def PySem.W.Fast.tw7263880188775326926:=()
def PySem.W.Fast.tw17400235550293543498:=()
def PySem.W.Fast.tw3366936147533068825:=()
def PySem.W.Fast.tw6364190769521796320:=()
def PySem.W.Fast.tw13653354460263483907:=()
def PySem.W.Fast.tw1542061942835278430:=()
def PySem.W.Fast.tw13565971917446698431:=()
def PySem.W.Fast.tw17759931312248742377:=()
def PySem.W.Fast.tw18151942683652497768:=()
def PySem.W.Fast.tw1138783805997310822:=()
def PySem.W.Fast.tw5967756235706059926:=()
def PySem.W.Fast.tw9515978388375019585:=()
def PySem.W.Fast.tw14485262798880162841:=()
def PySem.W.Fast.tw13723107797264242182:=()
def PySem.W.Fast.tw2666647152363315484:=()
def PySem.W.Fast.tw5975968887762689774:=()
def PySem.W.Fast.tw1027200814909889169:=()
def PySem.W.Fast.tw9725158281730297987:=()
def PySem.W.Fast.tw473497188878980007:=()
def PySem.W.Fast.tw15368114120253179523:=()
def PySem.W.Fast.tw4063736235626007708:=()
def PySem.W.Fast.tw17508987872921146616:=()
def PySem.W.Fast.tw3090664470279768560:=()
def PySem.W.Fast.tw4199216472710293821:=()
def PySem.W.Fast.tw6710048501614939717:=()
def PySem.W.Fast.tw16737571217063134816:=()
def PySem.W.Fast.tw8723017242998753466:=()
def PySem.W.Fast.tw9539385288146499911:=()
def PySem.W.Fast.tw7045733224447486828:=()
def PySem.W.Fast.tw12604206802411801614:=()
def PySem.W.Fast.tw8296512533838660699:=()
def PySem.W.Fast.tw18283809375859988494:=()
def PySem.W.Fast.tw7984671536021962077:=()
def PySem.W.Fast.tw8635974842692780100:=()
def PySem.W.Fast.tw2681455540607195854:=()
local macro_rules|`(tactic|walk_at "s")=>`(tactic|exact⟨rfl,rfl,rfl,by decide +kernel,rfl,by decide +kernel,by decide +kernel⟩)
local macro_rules|`(command| def $d:declId $s:optDeclSig $v:declVal)=>`(command| noncomputable def $d:declId $s:optDeclSig $v:declVal)
open PySem.W (instObj isFn emptyDict keepIn fnOf codeIn nsIn)
def Zaa:=@Option.some.inj
def Zab:=@PySem.wpAny_bind
def Zac:=@List.getElem?_set_ne
def Zad:=@PySem.Heap.get?_push_of_some
def Zae:=@if_pos
def Zaf:=@if_neg
def Zag:=@PySem.W.mg_of
def Zah:=@Nat.lt_of_lt_of_le
def Zai:=@List.getElem?_map
def Zaj:=@PySem.Heap.lt_size
def Zak:=@Nat.le_refl
def Zal:=@PySem.wpAny_pure
def Zam:=@List.length_map
def Zan:=@List.getElem?_append_left
def Zao:=@List.mem_of_getElem?
def Zap:=@List.getElem?_append_right
def Zaq:=@decide_eq_false
def Zar:=@List.getElem?_eq_some_iff
def Zas:=@PySem.Heap.get?_push_size
def Zat:=@List.mem_cons_of_mem
def Zau:=@Nat.le_trans
def Zav:=@List.getElem?_eq_getElem
def Zaw:=@List.length_append
def Zax:=@List.length_cons
def Zay:=@List.all_eq_true
def Zaz:=@List.append_nil
def ZaA:=@List.map_cons
def ZaB:=@List.mem_cons
def ZaC:=@Nat.ne_of_lt
def ZaD:=@List.mem_append_right
def ZaE:=@List.getElem?_set_self
def ZaF:=@Int.toNat_natCast
def ZaG:=@PySem.wpAny_mono
def ZaH:=@PySem.W.mg_none_of
def ZaI:=@if_false
def ZaJ:=@List.replicate_succ
def ZaK:=@List.getElem?_replicate
def ZaL:=@List.contains_cons
def ZaM:=@PySem.Heap.get?_update_other
def ZaN:=@PySem.Value.ref.inj
def ZaO:=@List.mem_cons_self
def ZaP:=@PySem.W.kia_one
def ZaQ:=@Nat.le_of_lt
def ZaR:=@List.getD_eq_getElem?_getD
def ZaS:=@Ne.symm
def ZaT:=@PySem.PassesOwn.never
def ZaU:=@if_true
def ZaV:=@Nat.lt_irrefl
def ZaW:=@Int.eq_ofNat_of_zero_le
def ZaX:=@Option.map_eq_some_iff
def ZaY:=@PySem.F.excBase_ValueError
def ZaZ:=@Bool.and_eq_true
def Za0:=@List.not_mem_nil
def Za1:=@List.length_replicate
def Za2:=@List.getElem?_eq_none
def Za3:=@PyProof.Rows.slot_tuple_getitem
def Za4:=@List.flatten_cons
def Za5:=@List.map_append
def Za6:=@Array.length_toList
def Za7:=@PySem.mem_of_lookup
def Za8:=@PySem.F.attr_ValueError
def Za9:=@PySem.F.plainAttrs_list
def Zba:=@PyProof.Rows.callWith_type1
def Zbb:=@PySem.Heap.get?_update_self
def Zbc:=@List.find?_cons
def Zbd:=@Nat.testBit_two_pow_sub_one
def Zbe:=@List.any_cons
def Zbf:=@List.mem_range
def Zbg:=@List.lookup_cons
def Zbh:=@Bool.not_eq_true
def Zbi:=@congrArg
def Zbj:=@PySem.F.slot_list_append
def Zbk:=@PySem.W.callWith_K
def Zbl:=@Bool.false_eq_true
def Zbm:=@Option.map_some
def Zbn:=@Int.natCast_nonneg
def Zbo:=@Nat.testBit_and
def Zbp:=@Nat.zero_le
def Zbq:=@List.getElem?_set
def Zbr:=@PySem.Heap.size_push
def Zbs:=@Bool.beq_eq_decide_eq
def Zbt:=@Bool.or_true
def Zbu:=@List.length_take
def Zbv:=@Nat.pow_le_pow_right
def Zbw:=@Nat.eq_of_testBit_eq
def Zbx:=@Nat.add_le_add_right
def Zby:=@List.all_cons
def Zbz:=@List.filterMap_cons
def ZbA:=@PySem.W.plainGet_of
def ZbB:=@List.nodup_cons
def ZbC:=@List.map_congr_left
def ZbD:=@Array.getD_eq_getD_getElem?
def ZbE:=@List.getElem?_range
def ZbF:=@List.cons.injEq
def ZbG:=@Int.emod_nonneg
def ZbH:=@Nat.mod_two_eq_zero_or_one
def ZbI:=@Bool.false_ne_true
def ZbJ:=@Nat.lt_of_le_of_lt
def ZbK:=@List.mem_map
def ZbL:=@Int.emod_lt_of_pos
def ZbM:=@List.drop_eq_getElem_cons
def ZbN:=@Option.isSome_map
def ZbO:=@List.ext_getElem?
def ZbP:=@Option.some.injEq
def ZbQ:=@Nat.le_succ
def ZbR:=@Nat.lt_succ_self
def ZbS:=@List.length_drop
def ZbT:=@List.getElem_mem
def ZbU:=@List.any_eq_true
def ZbV:=@Nat.ne_of_gt
def ZbW:=@List.of_mem_zip
def ZbX:=@List.foldl_cons
def ZbY:=@Bool.eq_iff_iff
def ZbZ:=@List.map_map
def Zb0:=@Nat.testBit_xor
def Zb1:=@Int.mul_le_mul
def Zb2:=@Int.one_mul
set_option compiler.extract_closed false
set_option bootstrap.genMatcherCode false
set_option genSizeOf false
local macro_rules|`(tactic| omega)=>`(tactic| first|(grind only)|omega (config:={}))
local macro_rules|`(tactic| lia)=>`(tactic| first|lia -verbose|omega (config:={}))
namespace L2
open PySem PySem.Spec PyProof.Rows
noncomputable abbrev Key:=Sum Int Str
def vz:Key->Value->Bool
 |.inl k,v=>Value.isInt k v
 |.inr x,v=>Value.isStrOf x v
def Ub(w:World):Key->Int
 |.inl k=>hashInt k
 |.inr x=>hashStr w x
theorem cL:∀ {k:Key}{v:Value},vz k v=true->(∃ i t,k=Sum.inl i/\v=Value.int i t)\/(∃ x t,k=Sum.inr x/\v=Value.str x t)
 |.inl i,v,h=>by
  obtain⟨t,e⟩:=Value.isInt_shape (k:=i) (v:=v) h;exact .inl ⟨i,t,rfl,e⟩
 |.inr x,v,h=>by
  obtain⟨t,e⟩:=Value.isStrOf_shape (x:=x) (v:=v) h;exact .inr ⟨x,t,rfl,e⟩
theorem Gm(i:Int)(t:Tok):vz (.inl i) (.int i t)=true:=by simp[vz,Value.isInt]
theorem Gn(x:Str)(t:Tok):vz (.inr x) (.str x t)=true:=by simp[vz,Value.isStrOf]
theorem Qe(a b:Int):decide ((Sum.inl a:Key)=Sum.inl b)=(a==b):=by
 by_cases e:a=b
 ·subst e;simp
 ·have h:¬(Sum.inl a:Key)=Sum.inl b:=λq=>e (Sum.inl.inj q);rw[Zaq h];exact(beq_eq_false_iff_ne.mpr e).symm
theorem Qf(a b:Str):decide ((Sum.inr a:Key)=Sum.inr b)=decide (a=b):=by
 by_cases e:a=b
 ·subst e;simp
 ·have h:¬(Sum.inr a:Key)=Sum.inr b:=λq=>e (Sum.inr.inj q);rw[Zaq h,Zaq e]
theorem Qg(a:Int)(b:Str):decide ((Sum.inl a:Key)=Sum.inr b)=false:=Zaq (λq=>nomatch q)
theorem Qh(a:Str)(b:Int):decide ((Sum.inr a:Key)=Sum.inl b)=false:=Zaq (λq=>nomatch q)
def dM(prog:Program)(w:World):PySem.KeyKind prog w Key where
 is:=vz
 hash:=Ub w
 inj:=λv a b ha hb=>by
  rcases cL ha with⟨i,t,rfl,rfl⟩|⟨x,t,rfl,rfl⟩
  ·rcases cL hb with⟨j,u,rfl,e⟩|⟨y,u,rfl,e⟩
   ·injection e with e1 _;rw[e1]
   ·exact nomatch e
  ·rcases cL hb with⟨j,u,rfl,e⟩|⟨y,u,rfl,e⟩
   ·exact nomatch e
   ·injection e with e1 _;rw[e1]
 byValue:=λk v h=>by
  rcases cL h with⟨i,t,rfl,rfl⟩|⟨x,t,rfl,rfl⟩<;>rfl
 pyHash:=λhv h=>by
  rcases cL hv with⟨i,t,rfl,rfl⟩|⟨x,t,rfl,rfl⟩
  ·exact wpAny_pyHash_int h
  ·exact wpAny_pyHash_str h
 eqBool:=λhu hv h=>by
  rcases cL hu with⟨i,t,rfl,rfl⟩|⟨x,t,rfl,rfl⟩
  ·rcases cL hv with⟨j,u,rfl,rfl⟩|⟨y,u,rfl,rfl⟩
   ·rw[Qe] at h;exact wpAny_eqBool_int h
   ·rw[Qg] at h;exact SeqAt.EqAt.int_str i t y u _ _ _ _ h
  ·rcases cL hv with⟨j,u,rfl,rfl⟩|⟨y,u,rfl,rfl⟩
   ·rw[Qh] at h;exact SeqAt.EqAt.str_int x t j u _ _ _ _ h
   ·rw[Qf] at h;exact wpAny_eqBool_str h
 «strs»:=λk x t v h=>by
  rcases cL h with⟨i,u,rfl,e⟩|⟨y,u,rfl,e⟩
  ·exact nomatch e
  ·injection e with e1 _
   subst e1;cases v<;>rfl
theorem yK(prog:Program)(w:World)(i:Int)(t:Tok):(dM prog w).is (.inl i) (.int i t)=true:=Gm i t
theorem yL(prog:Program)(w:World)(x:Str)(t:Tok):(dM prog w).is (.inr x) (.str x t)=true:=Gn x t
inductive V where
 |non|bl (b:Bool)|int (i:Int)|str (x:Str)|byt (b:Array UInt8)|flt (b:UInt64)|ref (a:Addr)|ty (n:String)
 deriving DecidableEq
def RelV:V->Value->Prop
 |.non,u=>u=Value.none
 |.bl b,u=>u=Value.bool b
 |.int i,u=>∃ t,u=Value.int i t
 |.str x,u=>∃ t,u=Value.str x t
 |.byt b,u=>∃ t,u=Value.bytes b t
 |.flt b,u=>∃ t,u=Value.float b t
 |.ref a,u=>u=Value.ref a
 |.ty n,u=>u=Value.type n
noncomputable abbrev Vals:List V->List Value->Prop:=Paired RelV
theorem Vals.length{xs:List V}{us:List Value}(r:Vals xs us):xs.length=us.length:=Paired.length r
theorem Vals.get:∀ {xs:List V}{us:List Value}{i:Nat}{x:V},Vals xs us->xs[i]?=some x->∃ u,us[i]?=some u/\RelV x u
 |_,_,_,_,.nil,e=>by simp at e
 |_,_,0,_,.cons r _,e=>by simp at e;subst e;exact⟨_,rfl,r⟩
 |_,_,i+1,x,.cons _ t,e=>by
  obtain⟨u,h1,h2⟩:=Vals.get (i:=i) (x:=x) t (by simpa using e)
  exact⟨u,by simpa using h1,h2⟩
theorem Vals.set{x:V}{u:Value}(r:RelV x u):∀ {xs:List V}{us:List Value} (i:Nat),Vals xs us->Vals (xs.set i x) (us.set i u)
 |_,_,_,.nil=>.nil
 |_,_,0,.cons _ t=>.cons r t
 |_,_,i+1,.cons q t=>.cons q (Vals.set r i t)
theorem Vals.append:∀ {xs ys:List V}{us ws:List Value},Vals xs us->Vals ys ws->Vals (xs++ys) (us++ws)
 |_,_,_,_,.nil,s=>s
 |_,_,_,_,.cons r t,s=>.cons r (Vals.append t s)
theorem Vals.take:∀ {xs:List V}{us:List Value} (n:Nat),Vals xs us->Vals (xs.take n) (us.take n)
 |_,_,0,_=>.nil
 |_,_,_+1,.nil=>.nil
 |_,_,n+1,.cons r t=>.cons r (Vals.take n t)
theorem Vals.drop:∀ {xs:List V}{us:List Value} (n:Nat),Vals xs us->Vals (xs.drop n) (us.drop n)
 |_,_,0,r=>r
 |_,_,_+1,.nil=>.nil
 |_,_,n+1,.cons _ t=>Vals.drop n t
def kJ:Option V->Option Value->Prop
 |some v,some u=>RelV v u
 |none,none=>True
 |_,_=>False
def KV{κ:Type}:List (κ×V)->List (κ×Value)->Prop:=Paired λ(p:κ×V) (q:κ×Value)=>p.1=q.1/\RelV p.2 q.2
def kV:Key->V
 |.inl i=>.int i
 |.inr x=>.str x
inductive HO where
 |lst (xs:List V)
 |tup (xs:List V)
 |dK (kvs:List (Key×V))|dT (kvs:List (List Key×V))
 |set (S:Int->Bool) (n:Nat)
 |ins (C dx:Addr) (fs:List (Str×V))
 |own (x:Addr)
 |xd (fs:List (Str×V))
 |met (f x:Addr)
 |rng (lo hi:Int)
 |frz (o:Obj) (u:HO)
 |tbl (ps:Array Value)
 |ext (φ:Heap->Prop)
noncomputable abbrev Hp:=Addr->Option HO
def upd(H:Hp)(a:Addr)(o:HO):Hp:=λb=>if b=a then some o else H b
theorem aP{H:Hp}{a:Addr}{o:HO}:upd H a o a=some o:=by unfold upd;rw[Zae rfl]
theorem aM{H:Hp}{a b:Addr}{o:HO}(h:b≠a):upd H a o b=H b:=by unfold upd;rw[Zaf h]
theorem R0{H:Hp}{a b:Addr}{o u:HO}(h:H a=some o)(h':H b=some u)(d:o≠u):a≠b:=by
 intro e;subst e;rw[h] at h';exact d (Zaa h')
theorem dg{H:Hp}{a b:Addr}{o:HO}(h:H a=some o)(h':H b=none):a≠b:=by
 intro e;subst e;rw[h] at h';cases h'
def eV(h:Heap)(a:Addr)(items:Array Value):Prop:=IsTup h a items/\∀ o,h.get? a=some o->o.dict=none
theorem eV.new(h:Heap)(items:Array Value):eV (h.push { cls:=.type "tuple",data:=.seq items }) h.objs.size items:=⟨IsTup.new h items,λo e=>by rw[Zas _ rfl] at e;cases e;rfl⟩
theorem eV.mk{h:Heap}{a:Addr}{items:Array Value}{n:Nat}(e:h.get? a=some { cls:=.type "tuple",data:=.seq items n }):eV h a items:=⟨⟨_,e,rfl,_,rfl⟩,λo q=>by rw[e] at q;cases q;rfl⟩
theorem eV.lt{h:Heap}{a:Addr}{items:Array Value}(x:eV h a items):a<h.objs.size:=x.1.lt
theorem eV.at'{h h':Heap}{a:Addr}{items:Array Value}(x:eV h a items)(e:∀ o,h.get? a=some o->h'.get? a=some o):eV h' a items:=by
 obtain⟨⟨o,h1,r⟩,d⟩:=x;exact⟨⟨o,e o h1,r⟩,λu q=>by rw[e o h1] at q;cases q;exact d o h1⟩
section
variable(P:Program)(w:World)
def cY(H:Hp)(h:Heap)(a:Addr):HO->Prop
 |.lst xs=>xs.length<=sizeLine/\∃ (its:List Value) (n:Nat),Vals xs its/\h.get? a=some { cls:=.type "list",data:=.seq its.toArray n }
 |.tup xs=>xs.length<=sizeLine/\∃ its:List Value,Vals xs its/\eV h a its.toArray
 |.dK kvs=>kvs.length<=sizeLine/\(a==sysModules)=false/\∃ vs,KV kvs vs/\h.DictOf (dM P w) a vs
 |.dT kvs=>kvs.length<=sizeLine/\(a==sysModules)=false/\∃ xs:List (List Key×Addr×Value),
   Paired (λ(p:List Key×V) (q:List Key×Addr×Value)=>p.1=q.1/\H q.2.1=some (.tup (p.1.map kV))/\RelV p.2 q.2.2) kvs xs /\
   ∃ o es ep,h.get? a=some o/\o.ExactDict/\o.data=.dict es ep/\es.toList=xs.map (entryOfKey (tupleKind (dM P w)))/\(xs.map (·.1)).Nodup
 |.set S n=>h.SetOf (intKind P w) a S n
 |.ins C dx fs=>H dx=some (.own a)/\fs.length<=1000/\dx≠a/\h.get? a=some (instObj C dx) /\
   ∃ mA,h.Ns1 dx mA/\(∀ f,kJ (fs.lookup f) (mA f))/\PySem.Within mA (fs.map (·.1))
 |.own _=>∃ o,h.get? a=some o
 |.xd fs=>∃ mA,h.Ns1 a mA/\∀ f,kJ (fs.lookup f) (mA f)
 |.rng lo hi=>∃ t u v,h.get? a=some { cls:=.type "range",data:=.fields #[.int lo t,.int hi u,.int 1 v] }
 |.frz o u=>h.get? a=some o/\cY H h a u
 |.tbl ps=>h.get? a=some { cls:=.none,data:=.fields ps }
 |.met f x=>h.get? a=some (PySem.W.methodObj (.ref f) (.ref x))
 |.ext φ=>φ h/\(∃ o,h.get? a=some o)/\∀ h1 h2:Heap,φ h1->(∀ o,h1.get? a=some o->h2.get? a=some o)->φ h2
def HOk(H:Hp)(h:Heap):Prop:=∀ a o,H a=some o->cY P w H h a o
end
section
variable{P:Program}{w:World}{H H':Hp}{h h':Heap}{a:Addr}{o:HO}
theorem cY.lt(x:cY P w H h a o):a<h.objs.size:=by
 cases o with
 |lst xs=>obtain⟨_,_,_,_,e⟩:=x;exact Zaj e
 |tup xs=>obtain⟨_,_,_,p⟩:=x;exact p.lt
 |dK kvs=>obtain⟨_,_,_,_,o,_,_,e,_⟩:=x;exact Zaj e
 |dT kvs=>obtain⟨_,_,_,_,o,_,_,e,_⟩:=x;exact Zaj e
 |set S n=>obtain⟨o,_,_,_,e,_⟩:=x;exact Zaj e
 |ins C dx fs=>obtain⟨_,_,_,e,_⟩:=x;exact Zaj e
 |own y=>obtain⟨_,e⟩:=x;exact Zaj e
 |xd fs=>obtain⟨_,⟨_,_,_,e,_⟩,_⟩:=x;exact Zaj e
 |rng lo hi=>obtain⟨_,_,_,e⟩:=x;exact Zaj e
 |frz ob u=>obtain⟨e,_⟩:=x;exact Zaj e
 |tbl ps=>exact Zaj (show h.get? a=some _ from x)
 |met f y=>exact Zaj (show h.get? a=some _ from x)
 |ext φ=>obtain⟨_,⟨_,e⟩,_⟩:=x;exact Zaj e
theorem Paired.Qi{α β:Type}{F G:α->β->Prop}:∀ {l₁:List α}{l₂:List β},Paired F l₁ l₂->(∀ a b,F a b->G a b)->Paired G l₁ l₂
 |_,_,.nil,_=>.nil
 |_,_,.cons r t,f=>.cons (f _ _ r) (Paired.Qi t f)
theorem cY.stay(x:cY P w H h a o)(k:∀ b u,(b=a\/H b=some (.own a))->h.get? b=some u->h'.get? b=some u)
  (ho:∀ b,H b=some (.own a)->H' b=some (.own a))(ht:∀ b xs,H b=some (.tup xs)->H' b=some (.tup xs)):cY P w H' h' a o:=by
 induction o with
 |lst xs=>obtain⟨z,its,n,r,e⟩:=x;exact⟨z,its,n,r,k _ _ (.inl rfl) e⟩
 |tup xs=>obtain⟨z,its,r,c⟩:=x;exact⟨z,its,r,c.at' λo e=>k _ _ (.inl rfl) e⟩
 |dK kvs=>obtain⟨z,y,vs,r,ob,es,ep,e,c⟩:=x;exact⟨z,y,vs,r,ob,es,ep,k _ _ (.inl rfl) e,c⟩
 |dT kvs=>
  obtain⟨z,y,xs,r,ob,es,ep,e,c⟩:=x;exact⟨z,y,xs,Paired.Qi r λp q z=>⟨z.1,ht _ _ z.2.1,z.2.2⟩,ob,es,ep,k _ _ (.inl rfl) e,c⟩
 |set S n=>obtain⟨ob,es,ep,t,e,c⟩:=x;exact⟨ob,es,ep,t,k _ _ (.inl rfl) e,c⟩
 |ins C dx fs=>
  obtain⟨d,z,ne,e,mA,⟨od,es,ep,e2,c⟩,r⟩:=x;exact⟨ho _ d,z,ne,k _ _ (.inl rfl) e,mA,⟨od,es,ep,k _ _ (.inr d) e2,c⟩,r⟩
 |own y=>obtain⟨ob,e⟩:=x;exact⟨ob,k _ _ (.inl rfl) e⟩
 |xd fs=>obtain⟨mA,⟨od,es,ep,e,c⟩,r⟩:=x;exact⟨mA,⟨od,es,ep,k _ _ (.inl rfl) e,c⟩,r⟩
 |rng lo hi=>obtain⟨t,u,v,e⟩:=x;exact⟨t,u,v,k _ _ (.inl rfl) e⟩
 |frz ob u ih=>obtain⟨e,q⟩:=x;exact⟨k _ _ (.inl rfl) e,ih q⟩
 |tbl ps=>
  have e:h.get? a=some { cls:=.none,data:=.fields ps }:=x;show h'.get? a=some { cls:=.none,data:=.fields ps }
  exact k a _ (.inl rfl) e
 |met f y=>
  have e:h.get? a=some (PySem.W.methodObj (.ref f) (.ref y)):=x;show h'.get? a=some (PySem.W.methodObj (.ref f) (.ref y))
  exact k a _ (.inl rfl) e
 |ext φ=>obtain⟨p,⟨o,e⟩,st⟩:=x;exact⟨st _ _ p λo q=>k _ _ (.inl rfl) q,⟨o,k _ _ (.inl rfl) e⟩,st⟩
theorem HOk.lt(x:HOk P w H h)(e:H a=some o):a<h.objs.size:=(x a o e).lt
theorem HOk.fresh(x:HOk P w H h)(e:h.objs.size<=a):H a=none:=by
 cases q:H a with
 |none=>rfl
 |some u=>exact absurd (Zah (x.lt q) e) (ZaV _)
theorem HOk.kept(x:HOk P w H h)(k:∀ b u,h.get? b=some u->h'.get? b=some u):HOk P w H h':=λa o e=>
 (x a o e).stay (λb u _ q=>k b u q) (λ_ q=>q) λ_ _ q=>q
theorem HOk.laid(x:HOk P w H h)(k:∀ b u,h.get? b=some u->h'.get? b=some u)(hp:h.objs.size<=a)(new:cY P w (upd H a o) h' a o):HOk P w (upd H a o) h':=λb u e=>by
 have hn:=x.fresh hp;by_cases hb:b=a
 ·subst hb;rw[aP] at e;cases e;exact new
 ·rw[aM hb] at e;exact(x b u e).stay (λc v _ q=>k c v q) (λc q=>by rw[aM (dg q hn)];exact q) λc xs q=>by rw[aM (dg q hn)];exact q
end
def Rd(H:Hp)(a:Addr)(u:HO):Prop:=H a=some u\/∃ o,H a=some (.frz o u)
theorem Rd.ok{P:Program}{w:World}{H:Hp}{h:Heap}{a:Addr}{u:HO}(r:Rd H a u)(x:HOk P w H h):cY P w H h a u:=by
 rcases r with r|⟨o,r⟩
 ·exact x a u r
 ·obtain⟨_,q⟩:=x a _ r;exact q
def Mut:Option HO->Prop
 |some (.lst _)=>True
 |some (.dK _)=>True
 |some (.dT _)=>True
 |some (.set _ _)=>True
 |some (.ins _ _ _)=>True
 |some (.ext _)=>True
 |_=>False
section
variable{P:Program}{w:World}{H:Hp}{h h':Heap}{x e:Addr}{o':HO}
theorem HOk.write(ok:HOk P w H h)(mu:Mut (H x))(he:e=x\/H e=some (.own x))(k:∀ b u,b≠e->h.get? b=some u->h'.get? b=some u)(heo:∃ u,h'.get? e=some u)
  (new:cY P w (upd H x o') h' x o'):HOk P w (upd H x o') h':=λb u q=>by
 have nown:∀ c y,H c=some (.own y)->c≠x:=λc y r z=>by subst z;rw[r] at mu;exact mu
 have ntup:∀ c xs,H c=some (.tup xs)->c≠x:=λc xs r z=>by subst z;rw[r] at mu;exact mu
 by_cases hb:b=x
 ·subst hb;rw[aP] at q;cases q;exact new
 ·rw[aM hb] at q;by_cases hbe:b=e
  ·have q':H b=some (.own x):=by
    rcases he with z|z
    ·exact absurd (hbe.trans z) hb
    ·rw[hbe];exact z
   rw[q] at q';cases q';obtain⟨v,hv⟩:=heo;exact⟨v,by rw[hbe];exact hv⟩
  ·refine(ok b u q).stay (λc v hc r=>k c v ?_ r) (λc r=>by rw[aM (nown c b r)];exact r) λc xs r=>by rw[aM (ntup c xs r)];exact r
   rcases hc with rfl|hc
   ·exact hbe
   ·rintro rfl;rcases he with z|z
    ·exact nown c b hc z
    ·rw[hc] at z;cases z;exact hb rfl
end
structure Un(fs ex:List Addr)(H H':Hp)(h h':Heap):Prop where
 keep:∀ b o,h.get? b=some o->H b=none->b ∉ fs->b ∉ ex->h'.get? b=some o
 slot:∀ b o,h.get? b=some o->H b=none->b∈fs->b ∉ ex->∃ sl,h'.get? b=some { o with slots:=sl }
 free:∀ b o,h.get? b=some o->H b=none->b ∉ ex->H' b=none
 there:∀ b o,h.get? b=some o->b ∉ ex->∃ o',h'.get? b=some o'
 tups:∀ b xs,H b=some (.tup xs)->H' b=some (.tup xs)
 frzs:∀ b o u,H b=some (.frz o u)->H' b=some (.frz o u)
 tbls:∀ b ps,H b=some (.tbl ps)->∃ more,H' b=some (.tbl (ps++more))
section
variable{fs ex:List Addr}{H H1:Hp}{h h1 h':Heap}{a x e:Addr}{o:HO}
theorem Un.any(u:Un fs ex H H1 h h1){b:Addr}{ob:Obj}(q:h.get? b=some ob)(n:H b=none)(hx:b ∉ ex):∃ sl,h1.get? b=some { ob with slots:=sl }:=by
 by_cases hb:b∈fs
 ·exact u.slot b ob q n hb hx
 ·exact⟨ob.slots,u.keep b ob q n hb hx⟩
theorem Un.kept(k:∀ b u,h.get? b=some u->h'.get? b=some u):Un fs ex H H h h':=
 ⟨λb ob q _ _ _=>k b ob q,λb ob q _ _ _=>⟨ob.slots,k b ob q⟩,λ_ _ _ n _=>n,λb ob q _=>⟨ob,k b ob q⟩,λ_ _ q=>q,λ_ _ _ q=>q,λ_ ps q=>⟨#[],by rw[q];simp⟩⟩
theorem Un.refl:Un fs ex H H h h:=Un.kept λ_ _ q=>q
theorem Un.laid(k:∀ b u,h.get? b=some u->h'.get? b=some u)(hp:h.objs.size<=a)(hn:H a=none):Un fs ex H (upd H a o) h h' where
 keep:=λb u q _ _ _=>k b u q
 slot:=λb u q _ _ _=>⟨u.slots,k b u q⟩
 free:=λb u q n _=>by rw[aM (ZaC (Zah (Zaj q) hp))];exact n
 there:=λb u q _=>⟨u,k b u q⟩
 tups:=λb xs q=>by rw[aM (dg q hn)];exact q
 frzs:=λb u xs q=>by rw[aM (dg q hn)];exact q
 tbls:=λb ps q=>⟨#[],by rw[aM (dg q hn),q];simp⟩
theorem Un.write(mu:Mut (H x))(he:e=x\/H e=some (.own x))(k:∀ b u,b≠e->h.get? b=some u->h'.get? b=some u)(heo:∃ u,h'.get? e=some u):Un fs ex H (upd H x o) h h':=by
 have hx:∀ b,H b=none->b≠x:=λb n z=>by subst z;rw[n] at mu;exact mu
 have hb:∀ b,H b=none->b≠e:=λb n z=>by
  subst z;rcases he with r|r
  ·exact hx b n r
  ·rw[n] at r;cases r
 have hm:∀ b u,H b=some u->¬Mut (some u)->b≠x:=λb u q nm z=>by subst z;rw[q] at mu;exact nm mu
 refine⟨λb u q n _ _=>k b u (hb b n) q,λb u q n _ _=>⟨u.slots,k b u (hb b n) q⟩,λb u q n _=>by rw[aM (hx b n)];exact n,λb u q _=>?_,
  λb xs q=>by rw[aM (hm b _ q λz=>z)];exact q,λb u xs q=>by rw[aM (hm b _ q λz=>z)];exact q,λb ps q=>⟨#[],by rw[aM (hm b _ q λz=>z),q];simp⟩⟩
 by_cases hbe:b=e
 ·subst hbe;exact heo
 ·exact⟨u,k b u hbe q⟩
end
def trk(h:Heap)(H:Hp):List Addr:=(List.range h.objs.size).filter λa=>(H a).isSome
def wA(h:Heap)(H:Hp):Heap:=PySem.W.hideAll h (trk h H)
theorem Gp(h:Heap)(H:Hp):(wA h H).objs.size=h.objs.size:=PySem.W.hideAll_size _ _
theorem Iw{h:Heap}{H:Hp}{b:Addr}{o:Obj}(e:h.get? b=some o)(n:H b=none):(wA h H).get? b=some o:=
 PySem.W.hideAll_get _ e λhm=>by
  have q:(H b).isSome=true:=(List.mem_filter.mp hm).2;rw[n] at q;simp at q
theorem Lq{h:Heap}{H:Hp}{b:Addr}{o:Obj}(e:(wA h H).get? b=some o):h.get? b=some o/\H b=none:=by
 have e':h.get? b=some o:=PySem.W.of_hideAll (trk h H) e;refine⟨e',?_⟩;cases q:H b with
 |none=>rfl
 |some x=>
  have hm:b∈trk h H:=List.mem_filter.mpr ⟨Zbf.mpr (Zaj e'),by simp[q]⟩
  have z:(wA h H).get? b=none:=PySem.W.hideAll_none (trk h H) hm;rw[z] at e;cases e
def Lr(g h:Heap)(L:Addr):List (Addr×Obj):=(List.range h.objs.size).filterMap λa=>if a=L\/(g.get? a).isSome=true then none else(h.get? a).map λo=>(a,o)
def rest(g h:Heap)(L d:Addr):List (Addr×Obj):=(Lr g h L).filter λp=>decide (p.1≠d)
structure Mod(K:PySem.W.Frag)(mg:Str->Option Value)(base:Heap):Prop where
 kin:K.In base
 glob:base.Ns mainGlobals mg
 blt:∃ mb,base.Ns builtinsNs mb/\∀ x:Str,x≠"__name__"->mb x=bootBuiltins x
 nolimit:base.NoLimit
structure Cx where
 prog:Program
 w:World
 K:PySem.W.Frag
 mg:Str->Option Value
 base:Heap
 A:Around
 N:List Str
 s₀:Shared
 H₀:Hp
 env:Env
 outer:List Env
 stack:List Env
 ex:List Addr
 fn:Str->Bool
 calm:Bool
 pn:List (Addr×Obj)
 xe:Value->Shared->Prop
def frs(l:List Env):List Addr:=l.filterMap (·.frame)
noncomputable abbrev Cx.fs(X:Cx):List Addr:=frs X.outer
def Vis(sc:Scope)(x:Str):Prop:=sc.names.lookup x=some .local\/sc.names.lookup x=some .cell\/sc.names.lookup x=some .free
def Loc(sc:Scope)(x:Str):Prop:=sc.names.lookup x=some .local\/sc.names.lookup x=some .cell
def Look(env:Env)(h:Heap)(m:Str->Option Value)(x:Str)(u:Value):Prop:=
 (env.kindOf x=some .local/\m x=some u)\/((env.kindOf x=some .cell\/env.kindOf x=some .free)/\∃ c,env.cells.lookup x=some c/\h.IsCell c (some u))
structure Cx.Ok(X:Cx):Prop where
 mod:Mod X.K X.mg X.base
 kind:X.env.scope.kind=.function
 glob:X.env.globals=mainGlobals
 blt:X.env.builtins=builtinsNs
 above:X.s₀.heap.objs.size<=X.env.locals
 inj:∀ x y c,X.env.cells.lookup x=some c->X.env.cells.lookup y=some c->x=y
 has:∀ x,(X.env.kindOf x=some .cell\/X.env.kindOf x=some .free)->∃ c,X.env.cells.lookup x=some c
 cab:∀ x c,X.fn x=true->X.env.cells.lookup x=some c->X.s₀.heap.objs.size<=c
 hd:X.calm=true->X.A.handled=none
 frames:X.A.frames=some X.stack
 stk:X.stack=X.outer\/(X.stack=X.env::X.outer/\X.env.frame=some X.env.locals)
 exf:∀ b∈X.ex,b≠X.env.locals/\∀ x c,X.env.cells.lookup x=some c->c≠b
 bs:∀ b o,X.base.get? b=some o->X.s₀.heap.get? b=some o/\X.H₀ b=none
 bsz:X.base.objs.size<=X.s₀.heap.objs.size
 noex:∀ b o,X.base.get? b=some o->b ∉ X.ex
 exfs:∀ b∈X.ex,b ∉ X.fs
 nZ:X.s₀.heap.FunFrames X.base X.outer
 frf:∀ b∈X.fs,X.H₀ b=none
structure Inv(X:Cx)(pins:List (Addr×Obj))(σ:List (Option V))(H:Hp)(s:Shared):Prop where
 ok:X.Ok
 os:s.os=X.s₀.os
 bare:AllBare s.gens
 base:Un X.fs X.ex X.H₀ H X.s₀.heap s.heap
 loc:∃ m,s.heap.Ns X.env.locals m/\∀ (i:Nat) (x:Str) (v:V),X.N[i]?=some x->σ[i]?=some (some v)->Vis X.env.scope x->∃ u,RelV v u/\Look X.env s.heap m x u
 cell:∀ x c,X.env.cells.lookup x=some c->∃ v,s.heap.IsCell c v
 free:H X.env.locals=none
 freeC:∀ x c,X.env.cells.lookup x=some c->H c=none
 pin:∀ p∈X.pn++pins,s.heap.get? p.1=some p.2/\H p.1=none/\p.1≠X.env.locals/\p.1 ∉ X.fs/\∀ v,p.2.data≠.cell v
 hok:HOk X.prog X.w H s.heap
 len:σ.length=X.N.length
section
variable{X:Cx}{pins:List (Addr×Obj)}{σ:List (Option V)}{H H':Hp}{s:Shared}{h':Heap}
theorem Cx.Ok.Qj(ok:X.Ok){b:Addr}{o:Obj}(e:X.base.get? b=some o):b ∉ X.fs:=λhb=>by
 have:=(ok.nZ.mem hb).1;rw[e] at this;cases this
theorem Inv.bs(I:Inv X pins σ H s):∀ b o,X.base.get? b=some o->s.heap.get? b=some o/\H b=none:=λb o e=>
 ⟨I.base.keep b o (I.ok.bs b o e).1 (I.ok.bs b o e).2 (I.ok.Qj e) (I.ok.noex b o e),I.base.free b o (I.ok.bs b o e).1 (I.ok.bs b o e).2 (I.ok.noex b o e)⟩
theorem Inv.bk(I:Inv X pins σ H s):∀ b o,X.base.get? b=some o->s.heap.get? b=some o:=λb o e=>(I.bs b o e).1
theorem Inv.mod(I:Inv X pins σ H s):Mod X.K X.mg X.base:=I.ok.mod
theorem Inv.kIn(I:Inv X pins σ H s):X.K.In s.heap:=I.ok.mod.kin.keeps I.bk
theorem Inv.lt(I:Inv X pins σ H s):X.env.locals<s.heap.objs.size:=let⟨_,hn,_⟩:=I.loc;hn.lt
theorem Inv.sz(I:Inv X pins σ H s):X.s₀.heap.objs.size<=s.heap.objs.size:=Zau I.ok.above (ZaQ I.lt)
theorem Inv.Uc(I:Inv X pins σ H s){a:Addr}(h:s.heap.objs.size<=a):a ∉ X.fs:=λhb=>by
 obtain⟨_,o,ho,_⟩:=I.ok.nZ.mem hb;exact absurd (Zah (Zaj ho) (Zau I.sz h)) (ZaV _)
theorem Inv.cne(I:Inv X pins σ H s):∀ x c,X.env.cells.lookup x=some c->c≠X.env.locals:=λx c e z=>by
 obtain⟨v,o,ho,hd⟩:=I.cell x c e;obtain⟨m,⟨o',es,ep,ho',hd',_⟩,_⟩:=I.loc;rw[z,ho'] at ho;cases ho;rw[hd'] at hd;cases hd
theorem Inv.nZ(I:Inv X pins σ H s):s.heap.FunFrames X.base X.outer:=by
 have all:∀ (l:List Env),(∀ b∈frs l,b∈X.fs)->X.s₀.heap.FunFrames X.base l->s.heap.FunFrames X.base l:=by
  intro l;induction l with
  |nil=>intro _ _;trivial
  |cons env r ih=>
   intro hs hl;obtain⟨hk,⟨L,o,hf,hn,ho,hd⟩,hr⟩:=hl;have hL:L∈X.fs:=hs L (by unfold frs;rw[Zbz,hf];exact ZaO)
   obtain⟨sl,e⟩:=I.base.slot L o ho (I.ok.frf L hL) hL λz=>I.ok.exfs L z hL;exact⟨hk,⟨L,_,hf,hn,e,hd⟩,ih (λb hb=>hs b (by unfold frs;rw[Zbz,hf];exact Zat _ hb)) hr⟩
 exact all X.outer (λ_ hb=>hb) I.ok.nZ
theorem Inv.stack(I:Inv X pins σ H s):s.heap.FunFrames X.base X.stack:=by
 rcases I.ok.stk with e|⟨e,hf⟩
 ·rw[e];exact I.nZ
 ·rw[e];obtain⟨m,hn,_⟩:=I.loc;refine .cons (by rw[I.ok.kind];decide) hf hn ?_ I.nZ
  exact Heap.get?_none_of_le (Zau I.ok.bsz I.ok.above)
theorem Inv.wB(I:Inv X pins σ H s):∀ b∈frs X.stack,b∈X.env.locals::X.fs:=λb hb=>by
 rcases I.ok.stk with e|⟨e,hf⟩
 ·rw[e] at hb;exact Zat _ hb
 ·rw[e] at hb;unfold frs at hb;rw[Zbz,hf] at hb;exact hb
theorem Inv.wC(I:Inv X pins σ H s):∀ b∈frs X.stack,H b=none:=λb hb=>by
 rcases ZaB.mp (I.wB b hb) with e|hb
 ·rw[e];exact I.free
 ·obtain⟨_,o,ho,_⟩:=I.ok.nZ.mem hb;exact I.base.free b o ho (I.ok.frf b hb) λz=>I.ok.exfs b z hb
theorem Inv.step{g':Array GenState}{t':Nat}{d':Drawn}{ch:List Addr}(I:Inv X pins σ H s)
  (hch:∀ b∈ch,(b∈X.ex\/X.s₀.heap.objs.size<=b)/\b≠X.env.locals/\(∀ x c,X.env.cells.lookup x=some c->c≠b)/\∀ p∈X.pn++pins,p.1≠b)
  (keep:∀ b o,b≠X.env.locals->b ∉ X.fs->b ∉ ch->s.heap.get? b=some o->H b=none->h'.get? b=some o)
  (slot:∀ b o,b≠X.env.locals->b∈X.fs->b ∉ ch->s.heap.get? b=some o->H b=none->∃ sl,h'.get? b=some { o with slots:=sl })(free:∀ b o,b ∉ ch->s.heap.get? b=some o->H b=none->H' b=none)
  (there:∀ b o,b ∉ ch->s.heap.get? b=some o->∃ o',h'.get? b=some o')
  (tups:∀ b xs,H b=some (.tup xs)->H' b=some (.tup xs))(frzs:∀ b o u,H b=some (.frz o u)->H' b=some (.frz o u))(tbls:∀ b ps,H b=some (.tbl ps)->∃ more,H' b=some (.tbl (ps++more)))
  (ns:∀ m,s.heap.Ns X.env.locals m->h'.Ns X.env.locals m)(hok:HOk X.prog X.w H' h')(hg:AllBare g') :
  Inv X pins σ H' { s with heap:=h',gens:=g',drawn:=d',toks:=t' }:=by
 have neL:∀ b o,X.s₀.heap.get? b=some o->b≠X.env.locals:=λb o e=>ZaC (Zah (Zaj e) I.ok.above);have neC:∀ b o,X.s₀.heap.get? b=some o->b ∉ X.ex->b ∉ ch:=λb o e hx hb=>by
  rcases(hch b hb).1 with z|z
  ·exact hx z
  ·exact absurd (Zah (Zaj e) z) (ZaV _)
 have cellK:∀ x c,X.env.cells.lookup x=some c->∀ v,s.heap.IsCell c v->h'.IsCell c v:=λx c e v ⟨o,ho,hd⟩=>by
  have nch:c ∉ ch:=λz=>(hch c z).2.2.1 x c e rfl;by_cases hc:c∈X.fs
  ·obtain⟨sl,q⟩:=slot c o (I.cne x c e) hc nch ho (I.freeC x c e);exact⟨_,q,hd⟩
  ·exact⟨o,keep c o (I.cne x c e) hc nch ho (I.freeC x c e),hd⟩
 refine⟨I.ok,I.os,hg,⟨λb o e n hb hx=>?_,λb o e n hb hx=>?_,λb o e n hx=>?_,λb o e hx=>?_,λb xs e=>tups b xs (I.base.tups b xs e),λb o xs e=>frzs b o xs (I.base.frzs b o xs e),λb ps e=>?_⟩,?_,λx c e=>?_,?_,λx c e=>?_,λp hp=>?_,hok,I.len⟩
 ·exact keep b o (neL b o e) hb (neC b o e hx) (I.base.keep b o e n hb hx) (I.base.free b o e n hx)
 ·obtain⟨sl,e1⟩:=I.base.slot b o e n hb hx;obtain⟨sl',e2⟩:=slot b _ (neL b o e) hb (neC b o e hx) e1 (I.base.free b o e n hx);exact⟨sl',e2⟩
 ·obtain⟨o',e1⟩:=I.base.there b o e hx;exact free b o' (neC b o e hx) e1 (I.base.free b o e n hx)
 ·obtain⟨o',e1⟩:=I.base.there b o e hx;exact there b o' (neC b o e hx) e1
 ·obtain⟨m1,e1⟩:=I.base.tbls b ps e;obtain⟨m2,e2⟩:=tbls b _ e1;exact⟨m1++m2,by rw[e2,Array.append_assoc]⟩
 ·obtain⟨m,hn,hl⟩:=I.loc;refine⟨m,ns m hn,λi x v e1 e2 e3=>?_⟩;obtain⟨u,r,l⟩:=hl i x v e1 e2 e3;refine⟨u,r,?_⟩;rcases l with l|⟨k,c,e,z⟩
  ·exact .inl l
  ·exact .inr ⟨k,c,e,cellK x c e _ z⟩
 ·obtain⟨v,z⟩:=I.cell x c e;exact⟨v,cellK x c e v z⟩
 ·obtain⟨m,⟨o,_,_,ho,_⟩,_⟩:=I.loc;exact free _ o (λz=>(hch _ z).2.1 rfl) ho I.free
 ·obtain⟨v,o,ho,hd⟩:=I.cell x c e;exact free c o (λz=>(hch c z).2.2.1 x c e rfl) ho (I.freeC x c e)
 ·obtain⟨e,n,ne,nf,d⟩:=I.pin p hp;have nch:p.1 ∉ ch:=λz=>(hch p.1 z).2.2.2 p hp rfl;exact⟨keep p.1 p.2 ne nf nch e n,free p.1 p.2 nch e n,ne,nf,d⟩
theorem Inv.un{t':Nat}(I:Inv X pins σ H s)(u:Un X.fs [] H H' s.heap h')(hok:HOk X.prog X.w H' h'):Inv X pins σ H' { s with heap:=h',toks:=t' }:=by
 obtain⟨m,⟨o,es,ep,ho,r⟩,_⟩:=id I.loc;obtain⟨sl,hL⟩:=u.any ho I.free (by simp)
 exact I.step (g':=s.gens) (d':=s.drawn) (ch:=[]) (λ_ z=>nomatch z) (λb o _ hb _ e n=>u.keep b o e n hb (by simp)) (λb o _ hb _ e n=>u.slot b o e n hb (by simp)) (λb o _ e n=>u.free b o e n (by simp)) (λb o _ e=>u.there b o e (by simp)) u.tups u.frzs u.tbls (λm' hm=>by
  obtain⟨o',es',ep',ho',r'⟩:=hm;rw[ho] at ho';cases ho';exact⟨_,es',ep',hL,r'⟩) hok I.bare
theorem Inv.call{g':Array GenState}{t':Nat}{d':Drawn}{ch:List Addr}(I:Inv X pins σ H s)(u:Un (frs X.stack) ch H H' s.heap h')(hok:HOk X.prog X.w H' h')(hg:AllBare g')
  (hch:∀ b∈ch,(b∈X.ex\/X.s₀.heap.objs.size<=b)/\b≠X.env.locals/\(∀ x c,X.env.cells.lookup x=some c->c≠b)/\∀ p∈X.pn++pins,p.1≠b) :
  Inv X pins σ H' { s with heap:=h',gens:=g',drawn:=d',toks:=t' }:=by
 obtain⟨m,⟨o,es,ep,ho,r⟩,_⟩:=id I.loc;obtain⟨sl,hL⟩:=u.any ho I.free λz=>(hch _ z).2.1 rfl;exact I.step (ch:=ch) hch (λb o hL hb hc e n=>u.keep b o e n (λz=>(ZaB.mp (I.wB b z)).elim hL hb) hc) (λb o _ _ hc e n=>u.any e n hc) (λb o hc e n=>u.free b o e n hc) (λb o hc e=>u.there b o e hc) u.tups u.frzs u.tbls (λm' hm=>by
  obtain⟨o',es',ep',ho',r'⟩:=hm;rw[ho] at ho';cases ho';exact⟨_,es',ep',hL,r'⟩) hok hg
theorem Inv.turned{t':Nat}{it:Addr}(I:Inv X pins σ H s)(k:∀ b o,b≠it->s.heap.get? b=some o->h'.get? b=some o)(hn:H it=none)(hL:it≠X.env.locals)
  (h1:it∈X.ex\/X.s₀.heap.objs.size<=it)(h2:∀ x c,X.env.cells.lookup x=some c->c≠it)(h3:∀ p∈X.pn++pins,p.1≠it):Inv X pins σ H { s with heap:=h',toks:=t' }:=by
 have nit:∀ b u,H b=some u->b≠it:=λb u e z=>by rw[z,hn] at e;cases e
 refine I.step (g':=s.gens) (d':=s.drawn) (ch:=[it]) (λb hb=>?_) (λb o _ _ hc e _=>k b o (λz=>hc (by simp[z])) e) (λb o _ _ hc e _=>⟨o.slots,k b o (λz=>hc (by simp[z])) e⟩) (λ_ _ _ _ n=>n)
  (λb o hc e=>⟨o,k b o (λz=>hc (by simp[z])) e⟩) (λ_ _ e=>e) (λ_ _ _ e=>e) (λb ps e=>⟨#[],by rw[e];simp⟩) (λm hm=>?_) (λb u e=>?_) I.bare
 ·have e:b=it:=by simpa using hb
  subst e;exact⟨h1,hL,h2,h3⟩
 ·obtain⟨o,es,ep,ho,r⟩:=hm;exact⟨o,es,ep,k _ o (ZaS hL) ho,r⟩
 ·refine(I.hok b u e).stay (λc v hc q=>k c v ?_ q) (λ_ q=>q) λ_ _ q=>q;rcases hc with z|z
  ·rw[z];exact nit b u e
  ·exact nit c _ z
theorem Inv.tok(I:Inv X pins σ H s)(t:Nat):Inv X pins σ H { s with toks:=t }:=I.un (h':=s.heap) (t':=t) Un.refl I.hok
theorem Inv.kept{t':Nat}(I:Inv X pins σ H s)(k:∀ b u,s.heap.get? b=some u->h'.get? b=some u):Inv X pins σ H { s with heap:=h',toks:=t' }:=I.un (Un.kept k) (I.hok.kept k)
theorem Inv.laid{a:Addr}{o:HO}{t':Nat}(I:Inv X pins σ H s)(k:∀ b u,s.heap.get? b=some u->h'.get? b=some u)(hp:s.heap.objs.size<=a)(new:cY X.prog X.w (upd H a o) h' a o) :
  Inv X pins σ (upd H a o) { s with heap:=h',toks:=t' }:=I.un (Un.laid k hp (I.hok.fresh hp)) (I.hok.laid k hp new)
theorem Inv.write{x e:Addr}{o:HO}{t':Nat}(I:Inv X pins σ H s)(mu:Mut (H x))(he:e=x\/H e=some (.own x))(k:∀ b u,b≠e->s.heap.get? b=some u->h'.get? b=some u)(heo:∃ u,h'.get? e=some u)
  (new:cY X.prog X.w (upd H x o) h' x o):Inv X pins σ (upd H x o) { s with heap:=h',toks:=t' }:=I.un (Un.write mu he k heo) (I.hok.write mu he k heo new)
theorem Inv.DP{pins':List (Addr×Obj)}(I:Inv X pins σ H s)(h:∀ p∈pins',s.heap.get? p.1=some p.2/\H p.1=none/\p.1≠X.env.locals/\p.1 ∉ X.fs/\∀ v,p.2.data≠.cell v):Inv X pins' σ H s:=
 ⟨I.ok,I.os,I.bare,I.base,I.loc,I.cell,I.free,I.freeC,λp hp=>(List.mem_append.mp hp).elim (λz=>I.pin p (List.mem_append_left _ z)) (h p),I.hok,I.len⟩
theorem sy{N:List Str}(hN:N.Nodup){i j:Nat}{x:Str}(a:N[i]?=some x)(b:N[j]?=some x):i=j:=by
 obtain⟨h1,e1⟩:=Zar.mp a;obtain⟨h2,e2⟩:=Zar.mp b;exact(List.getElem_inj hN).mp (e1.trans e2.symm)
theorem Gq{M:Model}{A:Around}{E:Value->Shared->Prop}{i:Nat}{x:Str}{v:V}{u:Value}{Q:Unit->Shared->Prop}(I:Inv X pins σ H s)(hN:X.N.Nodup)(hi:X.N[i]?=some x)(hx:Loc X.env.scope x)(r:RelV v u)
  (h:∀ s',Inv X pins (σ.set i (some v)) H s'->(∃ a,Heap.SameBut a s.heap s'.heap/\(a=X.env.locals\/X.env.cells.lookup x=some a))->Q () s')(hf:X.fn x=true\/X.env.scope.names.lookup x=some .local:=by first|exact .inl rfl|exact .inr rfl|assumption):wpAny M A (storeName X.env x u) Q E s:=by
 obtain⟨m,hn,hl⟩:=id I.loc;have hcls:(X.env.scope.kind==.class||(X.env.scope.kind==.module&&X.env.locals != X.env.globals))=false:=by rw[I.ok.kind];rfl
 have hiσ:i<σ.length:=by rw[I.len];exact(Zar.mp hi).1
 have cne:=I.cne;have tracked:∀ {a:Addr}{h':Heap},(∃ o,s.heap.get? a=some o/\H a=none)->Heap.SameBut a s.heap h'->HOk X.prog X.w H h':=λ{a h'} ha hs b ob e=>by
  obtain⟨_,_,hfree⟩:=ha;refine(I.hok b ob e).stay (λc w' hc q=>(hs.2 c ?_).trans q) (λ_ q=>q) λ_ _ q=>q;rintro rfl;rcases hc with rfl|hc
  ·rw[hfree] at e;cases e
  ·rw[hfree] at hc;cases hc
 rcases hx with hk|hk
 ·refine wpAny_storeName_local hk hn (λh' hn' hs=>?_) hcls;obtain⟨oL,_,_,hoL,_⟩:=id hn;refine h _ ⟨I.ok,I.os,I.bare,⟨λb o e n hb hx=>?_,λb o e n hb hx=>?_,I.base.free,λb o e hx=>?_,I.base.tups,I.base.frzs,I.base.tbls⟩,⟨_,hn',λj y v' e1 e2 e3=>?_⟩,λy c e=>?_,I.free,I.freeC,λp hp=>?_,tracked ⟨oL,hoL,I.free⟩ hs,by simpa using I.len⟩ ⟨_,hs,.inl rfl⟩
  ·exact(hs.2 b (ZaC (Zah (Zaj e) I.ok.above))).trans (I.base.keep b o e n hb hx)
  ·obtain⟨sl,e1⟩:=I.base.slot b o e n hb hx;exact⟨sl,(hs.2 b (ZaC (Zah (Zaj e) I.ok.above))).trans e1⟩
  ·obtain⟨o',e1⟩:=I.base.there b o e hx;exact⟨o',(hs.2 b (ZaC (Zah (Zaj e) I.ok.above))).trans e1⟩
  ·by_cases hj:j=i
   ·subst hj;rw[hi] at e1;cases e1;rw[ZaE hiσ] at e2;cases e2;exact⟨u,r,.inl ⟨hk,by simp⟩⟩
   ·rw[Zac (ZaS hj)] at e2;obtain⟨u',r',q⟩:=hl j y v' e1 e2 e3;refine⟨u',r',?_⟩;rcases q with⟨k,e⟩|⟨k,c,e,z⟩
    ·refine .inl ⟨k,?_⟩;have:y≠x:=λe=>hj (sy hN e1 (e▸hi));simp[this,e]
    ·exact .inr ⟨k,c,e,z.sameBut hs (cne y c e)⟩
  ·obtain⟨w',z⟩:=I.cell y c e;exact⟨w',z.sameBut hs (cne y c e)⟩
  ·obtain⟨e,n,ne,nf,d⟩:=I.pin p hp;exact⟨(hs.2 p.1 ne).trans e,n,ne,nf,d⟩
 ·have hfn:X.fn x=true:=by
   rcases hf with z|z
   ·exact z
   ·rw[z] at hk;cases hk
  obtain⟨c,hc⟩:=I.ok.has x (.inl hk);obtain⟨w',z⟩:=I.cell x c hc;refine wpAny_storeName_cell I.ok.kind hk hc z (λh' hc' hs=>?_);obtain⟨oc,hoc,hocd⟩:=id z;refine h { s with heap:=h' } ⟨I.ok,I.os,I.bare,⟨λb o e n hb hx=>?_,λb o e n hb hx=>?_,I.base.free,λb o e hx=>?_,I.base.tups,I.base.frzs,I.base.tbls⟩,⟨m,hn.sameBut hs (ZaS (cne x c hc)),λj y v' e1 e2 e3=>?_⟩,λy c' e=>?_,I.free,I.freeC,λp hp=>?_,tracked ⟨oc,hoc,I.freeC x c hc⟩ hs,by simpa using I.len⟩ ⟨c,hs,.inr hc⟩
  ·exact(hs.2 b (ZaC (Zah (Zaj e) (I.ok.cab x c hfn hc)))).trans (I.base.keep b o e n hb hx)
  ·obtain⟨sl,e1⟩:=I.base.slot b o e n hb hx;exact⟨sl,(hs.2 b (ZaC (Zah (Zaj e) (I.ok.cab x c hfn hc)))).trans e1⟩
  ·obtain⟨o',e1⟩:=I.base.there b o e hx;exact⟨o',(hs.2 b (ZaC (Zah (Zaj e) (I.ok.cab x c hfn hc)))).trans e1⟩
  ·by_cases hj:j=i
   ·subst hj;rw[hi] at e1;cases e1;rw[ZaE hiσ] at e2;cases e2;exact⟨u,r,.inr ⟨.inl hk,c,hc,hc'⟩⟩
   ·rw[Zac (ZaS hj)] at e2;obtain⟨u',r',q⟩:=hl j y v' e1 e2 e3;refine⟨u',r',?_⟩;rcases q with q|⟨k,c',e,z'⟩
    ·exact .inl q
    ·refine .inr ⟨k,c',e,z'.sameBut hs ?_⟩;rintro rfl;exact hj (sy hN e1 (I.ok.inj _ _ _ e hc▸hi))
  ·by_cases hcc:c'=c
   ·subst hcc;exact⟨_,hc'⟩
   ·obtain⟨w2,z2⟩:=I.cell y c' e;exact⟨w2,z2.sameBut hs hcc⟩
  ·obtain⟨e,n,ne,nf,d⟩:=I.pin p hp;refine⟨(hs.2 p.1 ?_).trans e,n,ne,nf,d⟩;intro q;rw[q,hoc] at e;have q':oc=p.2:=Zaa e;exact d w' (by rw[<-q'];exact hocd)
theorem lg{M:Model}{A:Around}{E:Value->Shared->Prop}{i:Nat}{x:Str}{v:V}{u:Value}{Q:Unit->Shared->Prop}(I:Inv X pins σ H s)(hN:X.N.Nodup)(hi:X.N[i]?=some x)(hx:Loc X.env.scope x)(r:RelV v u)
  (h:∀ s',Inv X pins (σ.set i (some v)) H s'->Q () s')(hf:X.fn x=true\/X.env.scope.names.lookup x=some .local:=by first|exact .inl rfl|exact .inr rfl|assumption):wpAny M A (storeName X.env x u) Q E s:=
 Gq I hN hi hx r (λs' I' _=>h s' I') hf
theorem Inv.call'{s':Shared}{ch:List Addr}(I:Inv X pins σ H s)(ho:s'.os=s.os)(u:Un (frs X.stack) ch H H' s.heap s'.heap)(hok:HOk X.prog X.w H' s'.heap)(hg:AllBare s'.gens)
  (hch:∀ b∈ch,(b∈X.ex\/X.s₀.heap.objs.size<=b)/\b≠X.env.locals/\(∀ x c,X.env.cells.lookup x=some c->c≠b)/\∀ p∈X.pn++pins,p.1≠b):Inv X pins σ H' s':=by
 obtain⟨h',g',d',t',o'⟩:=s';have e:o'=s.os:=ho;subst e;exact I.call (g':=g') (t':=t') (d':=d') u hok hg hch
end
noncomputable abbrev XK:=Value->Option Addr->Hp->Prop
noncomputable abbrev St:=List (Option V)
noncomputable abbrev VK:=V->Hp->Prop
noncomputable abbrev TE:=St->Hp->VK->Prop
noncomputable abbrev TT:=St->Hp->(Bool->Hp->Prop)->Prop
noncomputable abbrev TA:=St->Hp->(List V->Hp->Prop)->Prop
structure Ends where
 nx:St->Hp->Prop
 rt:VK
 bk:St->Hp->Prop:=λ_ _=>False
 ct:St->Hp->Prop:=λ_ _=>False
noncomputable abbrev TS:=Ends->St->Hp->Prop
def EP(X:Cx)(pins:List (Addr×Obj))(σ:St)(Q:VK)(u:Value)(s':Shared):Prop:=∃ v H',Inv X pins σ H' s'/\RelV v u/\Q v H'
def TP(X:Cx)(pins:List (Addr×Obj))(σ:St)(Q:Bool->Hp->Prop)(b:Bool)(s':Shared):Prop:=∃ H',Inv X pins σ H' s'/\Q b H'
def AP(X:Cx)(pins:List (Addr×Obj))(σ:St)(Q:List V->Hp->Prop)(us:List Value)(s':Shared):Prop:=∃ vs H',Inv X pins σ H' s'/\Vals vs us/\Q vs H'
def SP(X:Cx)(pins:List (Addr×Obj))(D:Ends)(f:Flow)(s':Shared):Prop:=
 match f with
 |.next=>∃ σ' H',Inv X pins σ' H' s'/\D.nx σ' H'
 |.brk=>∃ σ' H',Inv X pins σ' H' s'/\D.bk σ' H'
 |.cont=>∃ σ' H',Inv X pins σ' H' s'/\D.ct σ' H'
 |.ret u=>∃ v σ' H',Inv X pins σ' H' s'/\RelV v u/\D.rt v H'
def PE(X:Cx)(e:Expr)(t:TE):Prop:=
 ∀ (pins:List (Addr×Obj)) (s:Shared) (σ:St) (H:Hp) (Q:VK),Inv X pins σ H s->t σ H Q->wpAny (model X.prog X.w) X.A (eval e X.env) (EP X pins σ Q) X.xe s
def PT(X:Cx)(e:Expr)(t:TT):Prop:=
 ∀ (pins:List (Addr×Obj)) (s:Shared) (σ:St) (H:Hp) (Q:Bool->Hp->Prop),Inv X pins σ H s->t σ H Q->wpAny (model X.prog X.w) X.A (isTrue e X.env (eval e X.env)) (TP X pins σ Q) X.xe s
def PW(X:Cx)(e:Expr)(t:TT):Prop:=
 ∀ (whole:Sem Value) (pins:List (Addr×Obj)) (s:Shared) (σ:St) (H:Hp) (Q:Bool->Hp->Prop),Inv X pins σ H s->t σ H Q->wpAny (model X.prog X.w) X.A (isTrue e X.env whole) (TP X pins σ Q) X.xe s
theorem PW.pt{X:Cx}{e:Expr}{t:TT}(h:PW X e t):PT X e t:=h _
def PA(X:Cx)(es:List Expr)(t:TA):Prop:=
 ∀ (pos:Pos) (pins:List (Addr×Obj)) (s:Shared) (σ:St) (H:Hp) (Q:List V->Hp->Prop),Inv X pins σ H s->t σ H Q->wpAny (model X.prog X.w) X.A (spliced (backTo pos (starEach es X.env))) (AP X pins σ Q) X.xe s
def PS(X:Cx)(st:Stmt)(t:TS):Prop:=
 ∀ (pins:List (Addr×Obj)) (s:Shared) (σ:St) (H:Hp) (D:Ends),Inv X pins σ H s->t D σ H->wpAny (model X.prog X.w) X.A (exec st X.env) (SP X pins D) X.xe s
def PSs(X:Cx)(st:List Stmt)(t:TS):Prop:=
 ∀ (pins:List (Addr×Obj)) (s:Shared) (σ:St) (H:Hp) (D:Ends),Inv X pins σ H s->t D σ H->wpAny (model X.prog X.w) X.A (execs st X.env) (SP X pins D) X.xe s
theorem thn{α:Type}{t:Sem α}{Q Q':α->Shared->Prop}{M:Model}{A:Around}{E:Value->Shared->Prop}{s:Shared}(h:wpAny M A t Q E s)(hQ:∀ a s,Q a s->Q' a s):wpAny M A t Q' E s:=ZaG h hQ λ_ _ x=>x
section
variable{X:Cx}
def jx(i:Nat):TE:=λσ H Q=>∃ v,σ[i]?=some (some v)/\Q v H
def tC(v:V):TE:=λ_ H Q=>Q v H
theorem Bp{i:Nat}{x:Str}{pos:Pos}(hN:X.N[i]?=some x)(hv:Vis X.env.scope x)(hd:(x==("__debug__":Str))=false:=by decide)(hcd:(x==("__classdict__":Str))=false:=by decide):PE X (.Name x pos) (jx i):=by
 intro pins s σ H Q I h;obtain⟨v,e,h⟩:=h;obtain⟨m,hn,hl⟩:=I.loc;obtain⟨u,r,l⟩:=hl i x v hN e hv;have fin:EP X pins σ Q u s:=⟨v,H,I,r,h⟩;rcases l with⟨hk,hm⟩|⟨hk,c,hc,hcell⟩
 ·exact wpAny_Name (wpAny_loadName_local I.ok.kind hk hn hm fin) hd
 ·rcases hk with hk|hk
  ·exact wpAny_Name (wpAny_loadName_cell I.ok.kind hk hc hcell fin) hd
  ·exact wpAny_Name (wpAny_loadName_free I.ok.kind hk hc hcell fin hcd) hd
theorem au{i j pos}:PE X (.Constant (.int i) j pos) (tC (.int i)):=λ_ _ _ H _ I h=>wpAny_Constant_int ⟨.int i,H,I.tok _,⟨_,rfl⟩,h⟩
theorem fY{b j pos}:PE X (.Constant (.bool b) j pos) (tC (.bl b)):=λ_ _ _ H _ I h=>Constant_bool ⟨.bl b,H,I,rfl,h⟩
theorem Bq{j pos}:PE X (.Constant .none j pos) (tC .non):=λ_ _ _ H _ I h=>Constant_none ⟨.non,H,I,rfl,h⟩
theorem bM{x j pos}:PE X (.Constant (.str x) j pos) (tC (.str x)):=λ_ _ _ H _ I h=>Calls.Constant_str ⟨.str x,H,I.tok _,⟨_,rfl⟩,h⟩
def Gl(X:Cx)(x:Str):Prop:=X.env.kindOf x=some .globalImplicit
theorem oG{E:Value->Shared->Prop}{pins:List (Addr×Obj)}{s:Shared}{σ:St}{H:Hp}{x:Str}{u:Value}{pos:Pos}{Q:Value->Shared->Prop}(I:Inv X pins σ H s)(hg:Gl X x)(hm:X.mg x=some u)(h:Q u s)
  (hd:(x==("__debug__":Str))=false:=by decide):wpAny (model X.prog X.w) X.A (eval (.Name x pos) X.env) Q E s:=
 Calls.Name_function_global I.ok.kind hg (Calls.loadGlobal_global (by rw[I.ok.glob];exact I.mod.glob.keeps I.bk) hm h) hd
theorem sE{E:Value->Shared->Prop}{pins:List (Addr×Obj)}{s:Shared}{σ:St}{H:Hp}{x:Str}{u:Value}{pos:Pos}{Q:Value->Shared->Prop}(I:Inv X pins σ H s)(hg:Gl X x)(hm:X.mg x=none)(hv:bootBuiltins x=some u)(h:Q u s)
  (hn:x≠"__name__":=by decide)(hd:(x==("__debug__":Str))=false:=by decide):wpAny (model X.prog X.w) X.A (eval (.Name x pos) X.env) Q E s:=by
 obtain⟨mb,h1,h2⟩:=I.mod.blt;exact Calls.Name_function_global I.ok.kind hg (Calls.loadGlobal_builtin (by rw[I.ok.glob];exact I.mod.glob.keeps I.bk) hm (by rw[I.ok.blt];exact h1.keeps I.bk) ((h2 x hn).trans hv) h) hd
theorem wD{x:Str}{v:V}{u:Value}{pos:Pos}(hg:Gl X x)(hm:X.mg x=some u)(r:RelV v u)(hd:(x==("__debug__":Str))=false:=by decide):PE X (.Name x pos) (tC v):=
 λ_ _ _ H _ I h=>oG I hg hm ⟨v,H,I,r,h⟩ hd
theorem Ls{x:Str}{v:V}{u:Value}{pos:Pos}(hg:Gl X x)(hm:X.mg x=none)(hv:bootBuiltins x=some u)(r:RelV v u)(hn:x≠"__name__":=by decide)(hd:(x==("__debug__":Str))=false:=by decide):PE X (.Name x pos) (tC v):=
 λ_ _ _ H _ I h=>sE I hg hm hv ⟨v,H,I,r,h⟩ hn hd
variable{a b:Expr}{ta tb:TE}{pos:Pos}
def tB(t:TE):TT:=λσ H Q=>t σ H λx H1=>∃ c,x=.bl c/\Q c H1
theorem jH{e:Expr}{t:TE}(h:PE X e t)(he:∀ whole,isTrue e X.env whole=(do let v <-whole;standAt e.pos;holding [v] (truthy v)):=by intro _;rfl):PT X e (tB t):=by
 intro pins s σ H Q I hw;refine isTrue_plain (thn (h pins s σ H _ I hw) ?_) (he _);rintro v s1 ⟨x,H1,I1,r1,q1⟩;obtain⟨d,rfl,q⟩:=q1;cases r1;exact wpAny_truthy_bool ⟨H1,I1,q⟩
variable{tA tB':TT}{rest:List Expr}
def tOr(t u:TT):TT:=λσ H Q=>t σ H λc H1=>if c=true then Q true H1 else u σ H1 Q
def R4(t:TT):TT:=λσ H Q=>t σ H λc H1=>Q (!c) H1
theorem wF(ha:PT X a tA):PW X (.BoolOp .Or [a] pos) tA:=by
 intro wh pins s σ H Q I h;refine isTrue_or (thn (ha pins s σ H Q I h) λc s1 e=>?_);cases c with
 |false=>exact isTrue_or_nil e
 |true=>exact e
theorem DQ(ha:PT X a tA)(hb:PW X (.BoolOp .Or (b::rest) pos) tB'):PW X (.BoolOp .Or (a::b::rest) pos) (tOr tA tB'):=by
 intro wh pins s σ H Q I h;refine isTrue_or (thn (ha pins s σ H _ I h) ?_);rintro c s1 ⟨H1,I1,q1⟩;cases c with
 |true=>exact⟨H1,I1,q1⟩
 |false=>exact hb wh pins s1 σ H1 Q I1 q1
theorem jJ(ha:PT X a tA):PT X (.UnaryOp .Not a pos) (R4 tA):=by
 intro pins s σ H Q I h;exact isTrue_not (ha pins s σ H (λc H1=>Q (!c) H1) I h)
def Ox(ta tb:TE):TE:=λσ H Q=>ta σ H λx H1=>∃ c,x=.bl c/\if c=true then tb σ H1 Q else Q (.bl false) H1
def Oz(ta:TE):TE:=λσ H Q=>ta σ H λx H1=>∃ c,x=.bl c/\Q (.bl (!c)) H1
theorem sG{op}{t:TE}(h:PE X a t):PE X (.BoolOp op [a] pos) t:=λpins s σ H Q I hw=>BoolOp_one (h pins s σ H Q I hw)
theorem pO(ha:PE X a ta)(hb:PE X (.BoolOp .And (b::rest) pos) tb):PE X (.BoolOp .And (a::b::rest) pos) (Ox ta tb):=by
 intro pins s σ H Q I h;refine BoolOp_and (thn (ha pins s σ H _ I h) ?_);rintro v s1 ⟨x,H1,I1,r1,q1⟩;obtain⟨c,rfl,q1⟩:=q1;cases r1;refine wpAny_truthy_bool ?_;cases c with
 |true=>exact hb pins s1 σ H1 Q I1 q1
 |false=>exact⟨.bl false,H1,I1,rfl,q1⟩
theorem Qk(ha:PE X a ta):PE X (.UnaryOp .Not a pos) (Oz ta):=by
 intro pins s σ H Q I h;refine UnaryOp_ (thn (ha pins s σ H _ I h) ?_);rintro v s1 ⟨x,H1,I1,r1,q1⟩;obtain⟨c,rfl,q1⟩:=q1;cases r1;exact not_of (wpAny_truthy_bool ⟨.bl (!c),H1,I1,rfl,q1⟩)
def tIf(t:TT)(ta tb:TE):TE:=λσ H Q=>t σ H λc H1=>if c=true then ta σ H1 Q else tb σ H1 Q
theorem yM{c:Expr}(hc:PT X c tA)(ha:PE X a ta)(hb:PE X b tb):PE X (.IfExp c a b pos) (tIf tA ta tb):=by
 intro pins s σ H Q I h;refine wpAny_IfExp (thn (hc pins s σ H _ I h) ?_);rintro d s1 ⟨H1,I1,q1⟩;cases d with
 |true=>exact ha pins s1 σ H1 Q I1 q1
 |false=>exact hb pins s1 σ H1 Q I1 q1
end
def SqL(K:PySem.W.Frag)(H:Hp)(a:Addr)(xs:List V):Prop:=
 Rd H a (.lst xs) \/
  ∃ (o:Obj) (its:Array Value) (n:Nat),K.lookup a=some o/\o.cls=.type "list"/\o.dict=none/\o.data=.seq its n/\its.size<=sizeLine/\Vals xs its.toList
def SqT(K:PySem.W.Frag)(H:Hp)(a:Addr)(xs:List V):Prop:=
 Rd H a (.tup xs) \/
  ∃ (o:Obj) (its:Array Value) (n:Nat),K.lookup a=some o/\o.cls=.type "tuple"/\o.data=.seq its n/\its.size<=sizeLine/\Vals xs its.toList
def Ud:Value->Option V
 |.none=>some .non
 |.bool b=>some (.bl b)
 |.int i _=>some (.int i)
 |.str x _=>some (.str x)
 |.bytes b _=>some (.byt b)
 |.float b _=>some (.flt b)
 |.ref a=>some (.ref a)
 |.type n=>some (.ty n)
 |_=>none
theorem RelV.abs{x:V}{u:Value}(r:RelV x u):Ud u=some x:=by
 cases x with
 |non=>cases r;rfl
 |bl _=>cases r;rfl
 |int _=>obtain⟨t,rfl⟩:=r;rfl
 |str _=>obtain⟨t,rfl⟩:=r;rfl
 |byt _=>obtain⟨t,rfl⟩:=r;rfl
 |flt _=>obtain⟨t,rfl⟩:=r;rfl
 |ref _=>cases r;rfl
 |ty _=>cases r;rfl
theorem RelV.inj{x y:V}{u:Value}(r:RelV x u)(q:RelV y u):x=y:=Zaa (r.abs.symm.trans q.abs)
theorem Vals.inj:∀ {xs ys:List V}{us:List Value},Vals xs us->Vals ys us->xs=ys
 |_,_,_,.nil,.nil=>rfl
 |_,_,_,.cons r t,.cons r' t'=>by rw[r.inj r',Vals.inj t t']
section
variable{X:Cx}{pins:List (Addr×Obj)}{σ:St}{H:Hp}{s:Shared}{a:Addr}{xs ys:List V}
theorem SqL.of{K:PySem.W.Frag}(h:H a=some (.lst xs)):SqL K H a xs:=.inl (.inl h)
theorem SqT.of{K:PySem.W.Frag}(h:H a=some (.tup xs)):SqT K H a xs:=.inl (.inl h)
theorem Inv.list(I:Inv X pins σ H s)(h:SqL X.K H a xs):∃ its:List Value,Vals xs its/\PlainL s.heap a its.toArray/\xs.length<=sizeLine:=by
 rcases h with h|⟨o,its,n,hk,hc,hd,hs,hz,r⟩
 ·obtain⟨z,its,n,r,e⟩:=h.ok I.hok;exact⟨its,r,⟨_,n,e,rfl,rfl,rfl⟩,z⟩
 ·refine⟨its.toList,r,⟨o,n,I.kIn a o hk,hc,hd,by simpa using hs⟩,?_⟩
  have e:=r.length;simp only[Za6] at e;lia
theorem Inv.tuple(I:Inv X pins σ H s)(h:SqT X.K H a xs):∃ its:List Value,Vals xs its/\IsTup s.heap a its.toArray/\xs.length<=sizeLine:=by
 rcases h with h|⟨o,its,n,hk,hc,hs,hz,r⟩
 ·obtain⟨z,its,r,p⟩:=h.ok I.hok;exact⟨its,r,p.1,z⟩
 ·refine⟨its.toList,r,⟨o,I.kIn a o hk,hc,n,by simpa using hs⟩,?_⟩
  have e:=r.length;simp only[Za6] at e;omega
theorem Inv.yN(I:Inv X pins σ H s)(h:SqL X.K H a xs)(h':SqL X.K H a ys):xs=ys:=by
 obtain⟨its,r,⟨o,n,e,_,_,d⟩,_⟩:=I.list h;obtain⟨its',r',⟨o',n',e',_,_,d'⟩,_⟩:=I.list h';rw[e] at e';cases e';rw[d] at d';injection d' with d1 _
 have:its=its':=by simpa using Zbi Array.toList d1
 subst this;exact r.inj r'
theorem Inv.vA(I:Inv X pins σ H s)(h:SqT X.K H a xs)(h':SqT X.K H a ys):xs=ys:=by
 obtain⟨its,r,⟨o,e,_,n,d⟩,_⟩:=I.tuple h;obtain⟨its',r',⟨o',e',_,n',d'⟩,_⟩:=I.tuple h';rw[e] at e';cases e';rw[d] at d';injection d' with d1 _
 have:its=its':=by simpa using Zbi Array.toList d1
 subst this;exact r.inj r'
end
noncomputable abbrev Cx.wish(X:Cx)(E:Value->Shared->Prop):Cx:={ X with xe:=E }
noncomputable abbrev Cx.nox(X:Cx):Cx:=X.wish λ_ _=>False
theorem Cx.Ok.wish{X:Cx}(ok:X.Ok)(E:Value->Shared->Prop):(X.wish E).Ok:=
 ⟨ok.mod,ok.kind,ok.glob,ok.blt,ok.above,ok.inj,ok.has,ok.cab,ok.hd,ok.frames,ok.stk,ok.exf,ok.bs,ok.bsz,ok.noex,ok.exfs,ok.nZ,ok.frf⟩
theorem Cx.Ok.fO{X:Cx}{E:Value->Shared->Prop}(ok:(X.wish E).Ok):X.Ok:=
 ⟨ok.mod,ok.kind,ok.glob,ok.blt,ok.above,ok.inj,ok.has,ok.cab,ok.hd,ok.frames,ok.stk,ok.exf,ok.bs,ok.bsz,ok.noex,ok.exfs,ok.nZ,ok.frf⟩
section
variable{X:Cx}{pins:List (Addr×Obj)}{σ:St}{H:Hp}{s:Shared}{E:Value->Shared->Prop}
theorem Inv.wish(I:Inv X pins σ H s)(E:Value->Shared->Prop):Inv (X.wish E) pins σ H s:=⟨I.ok.wish E,I.os,I.bare,I.base,I.loc,I.cell,I.free,I.freeC,I.pin,I.hok,I.len⟩
theorem Inv.fO(I:Inv (X.wish E) pins σ H s):Inv X pins σ H s:=⟨I.ok.fO,I.os,I.bare,I.base,I.loc,I.cell,I.free,I.freeC,I.pin,I.hok,I.len⟩
theorem SP.fO{D:Ends}{f:Flow}{s':Shared}(h:SP (X.wish E) pins D f s'):SP X pins D f s':=by
 cases f with
 |next=>obtain⟨σ',H',I,q⟩:=h;exact⟨σ',H',I.fO,q⟩
 |brk=>obtain⟨σ',H',I,q⟩:=h;exact⟨σ',H',I.fO,q⟩
 |cont=>obtain⟨σ',H',I,q⟩:=h;exact⟨σ',H',I.fO,q⟩
 |ret u=>obtain⟨v,σ',H',I,r,q⟩:=h;exact⟨v,σ',H',I.fO,r,q⟩
theorem PSs.nox{st:List Stmt}{t:TS}(h:PSs X.nox st t):PSs X st t:=λpins s σ H D I hw=>
 ZaG (h pins s σ H D (I.wish _) hw) (λ_ _ q=>q.fO) λ_ _ z=>False.elim z
end
section
variable{X:Cx}{st:Stmt}{rest:List Stmt}{t u:TS}{e:Expr}{te:TE}{pos:Pos}
def Iz:TS:=λD σ H=>D.nx σ H
def Gr(t u:TS):TS:=λD σ H=>t { D with nx:=u D } σ H
theorem bY:PSs X [] Iz:=λ_ _ σ H _ I h=>wpAny_execs_nil ⟨σ,H,I,h⟩
theorem aC(h1:PS X st t)(h2:PSs X rest u):PSs X (st::rest) (Gr t u):=by
 intro pins s σ H D I h;refine wpAny_execs_cons (thn (h1 pins s σ H { D with nx:=u D } I h) λf s1 q=>?_);cases f with
 |next=>
  obtain⟨σ',H',I',q⟩:=q;exact h2 pins s1 σ' H' D I' q
 |ret v=>exact q
 |brk=>exact q
 |cont=>exact q
theorem aK(h1:PS X st t):PSs X [st] t:=by
 intro pins s σ H D I h;refine wpAny_execs_cons (thn (h1 pins s σ H D I h) λf s1 q=>?_);cases f with
 |next=>exact wpAny_execs_nil q
 |ret v=>exact q
 |brk=>exact q
 |cont=>exact q
theorem Inv.quiet{pins:List (Addr×Obj)}{σ:St}{H:Hp}{s:Shared}(I:Inv X pins σ H s):interactive X.env=false:=by simp[interactive,I.ok.kind]
def qz(te:TE):TS:=λD σ H=>te σ H λ_ H1=>D.nx σ H1
theorem jK(he:PE X e te)(hs:swapsWith e none pos.line X.env=pure false:=by rfl):PS X (.Expr e pos) (qz te):=by
 intro pins s σ H D I h;exact wpAny_Expr_any (thn (he pins s σ H _ I h) λv s1 ⟨x,H1,I1,r1,q1⟩=>⟨σ,H1,I1,q1⟩) I.quiet hs
def Gs(te:TE):TS:=λD σ H=>te σ H D.rt
theorem bG(he:PE X e te):PS X (.Return (some e) pos) (Gs te):=by
 intro pins s σ H D I h;exact wpAny_Return_some (thn (he pins s σ H _ I h) λv s1 ⟨x,H1,I1,r1,q1⟩=>⟨x,σ,H1,I1,r1,q1⟩)
def Lw(c:TT)(t u:TS):TS:=λD σ H=>c σ H λb H1=>if b=true then t D σ H1 else u D σ H1
theorem dU{c:Expr}{a b:List Stmt}{tc:TT}(hc:PT X c tc)(ha:PSs X a t)(hb:PSs X b u):PS X (.If c a b pos) (Lw tc t u):=by
 intro pins s σ H D I h;refine wpAny_If (thn (hc pins s σ H _ I h) ?_);rintro d s1 ⟨H1,I1,q1⟩;cases d with
 |true=>exact ha pins s1 σ H1 D I1 q1
 |false=>exact hb pins s1 σ H1 D I1 q1
end
noncomputable abbrev TG:=V->St->Hp->(St->Hp->Prop)->Prop
noncomputable abbrev TGs:=List V->St->Hp->(St->Hp->Prop)->Prop
def PG(X:Cx)(target:Expr)(t:TG):Prop:=
 ∀ (pins:List (Addr×Obj)) (s:Shared) (σ:St) (H:Hp) (v:V) (u:Value) (Q:St->Hp->Prop),Inv X pins σ H s->RelV v u->t v σ H Q ->
  wpAny (model X.prog X.w) X.A (assign target X.env u) (λ_ s'=>∃ σ' H',Inv X pins σ' H' s'/\Q σ' H') X.xe s
def PGs(X:Cx)(ts:List Expr)(t:TGs):Prop:=
 ∀ (pins:List (Addr×Obj)) (s:Shared) (σ:St) (H:Hp) (vs:List V) (us:List Value) (Q:St->Hp->Prop),Inv X pins σ H s->Vals vs us->t vs σ H Q ->
  wpAny (model X.prog X.w) X.A (assignInOrder ((assignEach ts X.env).map (·.2)) us) (λ_ s'=>∃ σ' H',Inv X pins σ' H' s'/\Q σ' H') X.xe s
noncomputable abbrev Ql:=V->V->V->Hp->(Hp->Prop)->Prop
def R5(X:Cx)(t:Ql):Prop:=
 ∀ (pins:List (Addr×Obj)) (s:Shared) (σ:St) (H:Hp) (o i v:V) (ov iv u:Value) (Q:Hp->Prop),Inv X pins σ H s->RelV o ov->RelV i iv->RelV v u->t o i v H Q ->
  wpAny (model X.prog X.w) X.A (setItem ov iv u) (λ_ s'=>∃ H',Inv X pins σ H' s'/\Q H') X.xe s
section
variable{X:Cx}{pos:Pos}
def qC(i:Nat):TG:=λv σ H Q=>Q (σ.set i (some v)) H
theorem fV{i:Nat}{x:Str}(hN:X.N.Nodup)(hi:X.N[i]?=some x)(hx:Loc X.env.scope x)(hf:X.fn x=true\/X.env.scope.names.lookup x=some .local:=by first|exact .inl rfl|exact .inr rfl|assumption):PG X (.Name x pos) (qC i):=by
 intro pins s σ H v u Q I r h;exact wpAny_assign_Name (lg I hN hi hx r (λs' I'=>⟨_,H,I',h⟩) hf)
def R6(to ti:TE)(t:Ql):TG:=λv σ H Q=>to σ H λo H1=>ti σ H1 λi H2=>t o i v H2 λH3=>Q σ H3
theorem Qm{o i:Expr}{to ti:TE}{t:Ql}(ho:PE X o to)(hi:PE X i ti)(hs:R5 X t)
  (ha:∀ v,assign (.Subscript o i pos) X.env v=(do
   let ov <-holding [v] (eval o X.env)
   let iv <-holding [v,ov] (eval i X.env)
   standAt pos
   holding [v,ov,iv] (setItem ov iv v)
   release [v,ov,iv] []):=by intro _;rfl):PG X (.Subscript o i pos) (R6 to ti t):=by
 intro pins s σ H v u Q I r h;rw[ha];refine Zab (wpAny_holding (thn (ho pins s σ H _ I h) ?_));rintro ov s1 ⟨x,H1,I1,r1,q1⟩;refine Zab (wpAny_holding (thn (hi pins s1 σ H1 _ I1 q1) ?_));rintro iv s2 ⟨y,H2,I2,r2,q2⟩;refine Zab (wpAny_standAt (Zab (wpAny_holding (thn (hs pins s2 σ H2 x y v ov iv u _ I2 r1 r2 r q2) ?_))));rintro _ s3 ⟨H3,I3,q3⟩;exact wpAny_release ⟨σ,H3,I3,q3⟩
def wG(te:TE)(g:TG):TS:=λD σ H=>te σ H λx H1=>g x σ H1 D.nx
theorem Qn{tg e:Expr}{te:TE}{g:TG}(he:PE X e te)(hg:PG X tg g)(hs:swapsWithSole [tg] e pos.line X.env=pure false:=by rfl)(hw:swappedStores [tg] e X.env=pure none:=by rfl)
  (h1:(assignEach [tg] X.env).map (·.2)=[assign tg X.env]:=by rfl):PS X (.Assign [tg] e pos) (wG te g):=by
 intro pins s σ H D I h;refine wpAny_Assign_stores (thn (he pins s σ H _ I h) ?_) hs hw;rintro v s1 ⟨x,H1,I1,r1,q1⟩;rw[h1];exact thn (hg pins s1 σ H1 x v _ I1 r1 q1) λ_ s2 q=>q
theorem aZ{i:Nat}{x:Str}{e:Expr}{te:TE}{pos':Pos}(hN:X.N.Nodup)(hi:X.N[i]?=some x)(hx:Loc X.env.scope x)(he:PE X e te)(hs:swapsWith e (some (.Name x pos')) pos.line X.env=pure false:=by rfl)(hf:X.fn x=true\/X.env.scope.names.lookup x=some .local:=by first|exact .inl rfl|exact .inr rfl|assumption) :
  PS X (.Assign [.Name x pos'] e pos) (wG te (qC i)):=by
 intro pins s σ H D I h;refine wpAny_Assign_Name (thn (he pins s σ H _ I h) ?_) hs;rintro v s1 ⟨y,H1,I1,r1,q1⟩;exact lg I1 hN hi hx r1 (λs2 I2=>⟨_,H1,I2,q1⟩) hf
def R7(i j:Nat)(ta:TA):TS:=λD σ H=>ta σ H λvs H1=>∃ v w,vs=[v,w]/\D.nx ((σ.set i (some v)).set j (some w)) H1
theorem Br{i j:Nat}{x y:Str}{a b:Expr}{ta:TA}{px py pt:Pos}{kt k2 pt2}(hc:X.calm=true)(hN:X.N.Nodup)(hi:X.N[i]?=some x)(hj:X.N[j]?=some y)(hij:i≠j)
  (hx:X.env.scope.names.lookup x=some .local)(hy:X.env.scope.names.lookup y=some .local)(ha:PA X [a,b] ta)
  (hw:swappedStores [.Tuple [.Name x px,.Name y py] kt pt] (.Tuple [a,b] k2 pt2) X.env=pure (some [x,y]))
  (hs:swapsWithSole [.Tuple [.Name x px,.Name y py] kt pt] (.Tuple [a,b] k2 pt2) pos.line X.env=pure false:=by rfl) :
  PS X (.Assign [.Tuple [.Name x px,.Name y py] kt pt] (.Tuple [a,b] k2 pt2) pos) (R7 i j ta):=by
 intro pins s σ H D I h;rw[exec_Assign_arm];refine Zab (wpAny_standAt ?_);rw[hs];refine Zab (Zal ?_);rw[Zaf (by decide)]
 refine Zab (Tuple_ (thn (ha _ pins s σ H _ I h) ?_));rintro us s1 ⟨vs,H1,I1,r1,q1⟩;obtain⟨v,w,e1,q1⟩:=q1;subst e1;obtain⟨u1,u2,rfl,rv,rw'⟩:∃ u1 u2,us=[u1,u2]/\RelV v u1/\RelV w u2:=by
  cases r1 with
  |cons p q=>
   cases q with
   |cons p' q'=>
    cases q';exact⟨_,_,rfl,p,p'⟩
 refine wpAny_newObj_type ?_ (by show 2<=sizeLine;decide)
 have I2:Inv X pins σ H1 { s1 with heap:=s1.heap.push { cls:=.type "tuple",data:=.seq [u1,u2].toArray } }:=I1.kept (t':=s1.toks) λb o e=>Zad _ e;rw[hw];refine Zab (Zal ?_);show wpAny (model X.prog X.w) X.A (do rule "assign.swapped-stores";let items <-unpackItems (.ref s1.heap.objs.size) 2 none;assignInOrder [λv=>bindName X.env y v,λv=>bindName X.env x v] items.reverse;pure Flow.next) _ _ _
 refine Zab (wpAny_rule (Zab (unpackItems_tuple (items:=#[u1,u2]) (I.ok.hd hc) (IsTup.new s1.heap _) λh' hx'=>?_)));have I3:=I2.kept (h':=h') (t':=s1.toks) λb o e=>hx' b o (ZaC (Zaj e)) e;show wpAny _ _ (assignInOrder [λv=>bindName X.env y v,λv=>bindName X.env x v] [u2,u1]>>=λ_=>pure Flow.next) _ _ _
 refine Zab (assignInOrder_cons (wpAny_bindName (lg I3 hN hj (.inl hy) rw' (λs2 I4=>?_) (.inr hy))));refine assignInOrder_cons (wpAny_bindName (lg I4 hN hi (.inl hx) rv (λs3 I5=>assignInOrder_nil (Zal ?_)) (.inr hx)));rw[List.set_comm _ _ (ZaS hij)] at I5;exact⟨_,H1,I5,q1⟩
end
structure It where
 go:Nat->Hp->Prop
 yld:Nat->Hp->V->Hp->Prop
 stop:Nat->Hp->Prop
def yO(X:Cx)(pins:List (Addr×Obj))(H:Hp)(b:Addr):Prop:=
 H b=none/\b≠X.env.locals/\b ∉ X.fs/\(b∈X.ex\/X.s₀.heap.objs.size<=b)/\(∀ x c,X.env.cells.lookup x=some c->c≠b)/\∀ p∈X.pn++pins,p.1≠b
theorem Inv.R8{X:Cx}{pins:List (Addr×Obj)}{σ:St}{H H':Hp}{s:Shared}{b:Addr}(I:Inv X pins σ H s)(hb:s.heap.objs.size<=b)(hn:H' b=none):yO X pins H' b:=by
 refine⟨hn,ZbV (Zah I.lt hb),I.Uc hb,.inr (Zau I.sz hb),λx c e z=>?_,λp hp z=>?_⟩
 ·obtain⟨v,q⟩:=I.cell x c e;exact absurd (Zah q.lt (by rw[z];exact hb)) (ZaV _)
 ·exact absurd (Zah (Zaj (I.pin p hp).1) (by rw[z];exact hb)) (ZaV _)
structure Turn(P:Program)(w:World)(K:PySem.W.Frag)(tg:Expr)(J:It)(fp:List Addr)(it:Addr)(tn:Nat->Heap->Prop):Prop where
 mem:it∈fp
 obj:∀ i h,tn i h->∀ b∈fp,∃ o,h.get? b=some o/\∀ v,o.data≠.cell v
 keep:∀ i h h',tn i h->(∀ b∈fp,∀ o,h.get? b=some o->h'.get? b=some o)->tn i h'
 item:∀ (X:Cx),X.prog=P->X.w=w->X.K=K->X.calm=true->∀ (i:Nat) (pins:List (Addr×Obj)) (s:Shared) (σ:St) (H:Hp) (E:Value->Shared->Prop),Inv X pins σ H s->(∀ b∈fp,yO X pins H b)->tn i s.heap->J.go i H ->
  wpAny (model P w) X.A (pyNext (.ref it)) (λr s1=>∃ u,r=some u /\
   wpAny (model P w) X.A (letOwnedTupleGo tg (.ref it) u) (λ_ s2=>∃ x H',Inv X pins σ H' s2/\RelV x u/\J.yld i H x H'/\tn (i+1) s2.heap/\∀ b∈fp,H' b=none) E s1) E s
 done:∀ (X:Cx),X.prog=P->X.w=w->X.K=K->X.calm=true->∀ (i:Nat) (pins:List (Addr×Obj)) (s:Shared) (σ:St) (H:Hp) (E:Value->Shared->Prop),Inv X pins σ H s->(∀ b∈fp,yO X pins H b)->tn i s.heap->J.stop i H ->
  wpAny (model P w) X.A (pyNext (.ref it)) (λr s1=>r=none/\Inv X pins σ H s1) E s
 self:∀ (A:Around) (i:Nat) (s:Shared) (Q:Value->Shared->Prop) (E:Value->Shared->Prop),tn i s.heap->Q (.ref it) s->wpAny (model P w) A (pyIter (.ref it)) Q E s
noncomputable abbrev TI:=St->Hp->(It->Hp->Prop)->Prop
def PIE(X:Cx)(pins:List (Addr×Obj))(σ:St)(tg:Expr)(R:It->Hp->Prop)(itv:Value)(s2:Shared):Prop:=
 ∃ (it:Addr) (fp:List Addr) (tn:Nat->Heap->Prop) (J:It) (H':Hp),itv=.ref it/\Inv X pins σ H' s2/\Turn X.prog X.w X.K tg J fp it tn/\tn 0 s2.heap/\(∀ b∈fp,yO X pins H' b)/\R J H'
def PI(X:Cx)(tg iter:Expr)(wi:TI):Prop:=
 ∀ (pins:List (Addr×Obj)) (s:Shared) (σ:St) (H:Hp) (R:It->Hp->Prop),Inv X pins σ H s->wi σ H R ->
  wpAny (model X.prog X.w) X.A (eval iter X.env) (λv s1=>wpAny (model X.prog X.w) X.A (pyIter v) (PIE X pins σ tg R) X.xe s1) X.xe s
theorem DR{M:Model}{A:Around}{E:Value->Shared->Prop}{s:Shared}{tg:Expr}{it:Addr}{u:Value}{o:Obj}{n:String}{vs:Array Value}{Q:Unit->Shared->Prop}(ho:s.heap.get? it=some o)(hc:o.cls=.type n)(hd:o.data=.fields vs)
  (hn:["enumerate","zip","dict_itemiterator","dict_reverseitemiterator","odict_iterator","itertools.zip_longest","itertools.pairwise"].contains n=false)(hQ:Q () s):wpAny M A (letOwnedTupleGo tg (.ref it) u) Q E s:=by
 unfold letOwnedTupleGo;cases tg<;>first
  |exact Zal hQ
  |(cases u<;>first
    |exact Zal hQ
    |(refine Zab (wpAny_load ho ?_)
      rw[hc,hd];show wpAny M A (if(["enumerate","zip","dict_itemiterator","dict_reverseitemiterator","odict_iterator","itertools.zip_longest","itertools.pairwise"].contains n&&vs[0]?==some (rawInt _))=true then _ else _) Q E s
      rw[Zaf (by intro h;rw[hn,Bool.false_and] at h;cases h)]
      exact Zal hQ))
def Itl(K:PySem.W.Frag)(a:Addr):It:=
 ⟨λi H=>∃ xs x,SqL K H a xs/\xs[i]?=some x,λi H x H'=>H'=H/\∀ xs,SqL K H a xs->xs[i]?=some x,λi H=>∃ xs,SqL K H a xs/\xs.length<=i⟩
def Itt(K:PySem.W.Frag)(a:Addr):It:=
 ⟨λi H=>∃ xs x,SqT K H a xs/\xs[i]?=some x,λi H x H'=>H'=H/\∀ xs,SqT K H a xs->xs[i]?=some x,λi H=>∃ xs,SqT K H a xs/\xs.length<=i⟩
def Itr(lo:Int)(n:Nat):It:=⟨λi _=>i<n,λi H x H'=>H'=H/\x=.int (lo+i),λi _=>n<=i⟩
theorem Gu{P:Program}{w:World}{K:PySem.W.Frag}{tg:Expr}(a it:Addr):Turn P w K tg (Itl K a) [it] it (λi h=>h.IsListIter it a i) where
 mem:=by simp
 obj:=λi h st b hb=>by
  have e:b=it:=by simpa using hb
  subst e;obtain⟨o,e,c,d⟩:=st;exact⟨o,e,λv z=>by rw[d] at z;cases z⟩
 keep:=λi h h' st k=>st.at λo e=>k it (by simp) o e
 item:=by
  intro X hP hw hK hc i pins s σ H E I hf st hg;subst hP hw hK;obtain⟨xs,x,hq,hx⟩:=hg;obtain⟨its,rv,p,hz⟩:=I.list hq;obtain⟨u,hu,ru⟩:=rv.get hx;obtain⟨f0,f1,f2,f3,f4,f5⟩:=hf it (by simp)
  refine wpAny_pyNext_list_item st p.isList (x:=u) (by simpa using hu) λh' st' sb=>?_
  have I1:Inv X pins σ H { s with heap:=h' }:=I.turned (t':=s.toks) (λb o hb e=>(sb.2 b hb).trans e) f0 f1 f3 f4 f5;obtain⟨o,e,c,d⟩:=id st';exact⟨u,rfl,DR (s:={ s with heap:=h' }) e c d (by decide) ⟨x,H,I1,ru,⟨rfl,λys hy=>by rw[I.yN hy hq];exact hx⟩,st',λb hb=>(hf b hb).1⟩⟩
 done:=by
  intro X hP hw hK hc i pins s σ H E I hf st hg;subst hP hw hK;obtain⟨xs,hq,hx⟩:=hg;obtain⟨its,rv,p,hz⟩:=I.list hq;obtain⟨f0,f1,f2,f3,f4,f5⟩:=hf it (by simp)
  have hl:=rv.length;exact wpAny_pyNext_list_end (I.ok.hd hc) st p.isList (by simp;lia) λh' eb=>⟨rfl,I.turned (t':=s.toks) (λb o hb e=>eb b o hb e) f0 f1 f3 f4 f5⟩
 self:=λ_ _ _ _ _ st h=>wpAny_pyIter_listiter st h
theorem Bs{P:Program}{w:World}{K:PySem.W.Frag}{tg:Expr}(a it:Addr):Turn P w K tg (Itt K a) [it] it (λi h=>h.IsTupleIter it a i) where
 mem:=by simp
 obj:=λi h st b hb=>by
  have e:b=it:=by simpa using hb
  subst e;obtain⟨o,e,c,d⟩:=st;exact⟨o,e,λv z=>by rw[d] at z;cases z⟩
 keep:=λi h h' st k=>st.at λo e=>k it (by simp) o e
 item:=by
  intro X hP hw hK hc i pins s σ H E I hf st hg;subst hP hw hK;obtain⟨xs,x,hq,hx⟩:=hg;obtain⟨its,rv,p,hz⟩:=I.tuple hq;obtain⟨u,hu,ru⟩:=rv.get hx;obtain⟨f0,f1,f2,f3,f4,f5⟩:=hf it (by simp)
  refine wpAny_pyNext_tuple_item st (show s.heap.IsTuple a its.toArray from p) (x:=u) (by simpa using hu) λh' st' sb=>?_
  have I1:Inv X pins σ H { s with heap:=h' }:=I.turned (t':=s.toks) (λb o hb e=>(sb.2 b hb).trans e) f0 f1 f3 f4 f5;obtain⟨o,e,c,d⟩:=id st';exact⟨u,rfl,DR (s:={ s with heap:=h' }) e c d (by decide) ⟨x,H,I1,ru,⟨rfl,λys hy=>by rw[I.vA hy hq];exact hx⟩,st',λb hb=>(hf b hb).1⟩⟩
 done:=by
  intro X hP hw hK hc i pins s σ H E I hf st hg;subst hP hw hK;obtain⟨xs,hq,hx⟩:=hg;obtain⟨its,rv,p,hz⟩:=I.tuple hq;obtain⟨f0,f1,f2,f3,f4,f5⟩:=hf it (by simp)
  have hl:=rv.length;exact wpAny_pyNext_tuple_end (I.ok.hd hc) st (show s.heap.IsTuple a its.toArray from p) (by simp;omega) λh' eb=>⟨rfl,I.turned (t':=s.toks) (λb o hb e=>eb b o hb e) f0 f1 f3 f4 f5⟩
 self:=λ_ _ _ _ _ st h=>wpAny_pyIter_tupleiter st h
theorem Bt{P:Program}{w:World}{K:PySem.W.Frag}{tg:Expr}(it:Addr)(lo:Int)(n:Nat):Turn P w K tg (Itr lo n) [it] it (λi h=>IsRangeIter h it (lo+(i:Nat)*1) ((n:Int)-(i:Nat)) 1) where
 mem:=by simp
 obj:=λi h st b hb=>by
  have e:b=it:=by simpa using hb
  subst e;exact⟨_,st,λv z=>by
   have z':Data.fields _=Data.cell v:=z;cases z'⟩
 keep:=λi h h' st k=>k it (by simp) _ st
 item:=by
  intro X hP hw hK hc i pins s σ H E I hf st hg;subst hP hw hK;obtain⟨f0,f1,f2,f3,f4,f5⟩:=hf it (by simp)
  have W:=Walks.range (prog:=X.prog) (w:=X.w) (I.ok.hd hc) it lo 1 n;refine W.item i s _ _ hg st λv h' tk hv st' kk=>?_;obtain⟨t,rfl⟩:=hv;have I1:Inv X pins σ H { s with heap:=h',toks:=tk }:=I.turned (λb o hb e=>kk b o (by simpa using hb) e) f0 f1 f3 f4 f5
  refine⟨_,rfl,DR (s:={ s with heap:=h',toks:=tk }) (n:="range_iterator") st' rfl rfl (by decide) ⟨.int (lo+i),H,I1,⟨t,?_⟩,⟨rfl,rfl⟩,st',λb hb=>(hf b hb).1⟩⟩
  rw[Int.mul_one]
 done:=by
  intro X hP hw hK hc i pins s σ H E I hf st hg;subst hP hw hK;obtain⟨f0,f1,f2,f3,f4,f5⟩:=hf it (by simp)
  exact wpAny_pyNext_range_end (I.ok.hd hc) st (by have:n<=i:=hg;omega) λh' eb=>⟨rfl,I.turned (t':=s.toks) (λb o hb e=>eb b o hb e) f0 f1 f3 f4 f5⟩
 self:=λ_ _ _ _ _ st h=>wpAny_pyIter_rangeiter st h
section
variable{X:Cx}{tg:Expr}
theorem yP{pins:List (Addr×Obj)}{σ:St}{H:Hp}{s:Shared}{R:It->Hp->Prop}{E:Value->Shared->Prop}{lo hi:Int}{t u v:Tok}{tk:Nat}(I:Inv X pins σ H s)(h1:-(2^62)<=lo)(h2:lo<2^62)(h3:-(2^62)<=hi)(h4:hi<2^62)
  (q:R (Itr lo (hi-lo).toNat) H):wpAny (model X.prog X.w) X.A (pyIter (.ref s.heap.objs.size)) (PIE X pins σ tg R) E { s with heap:=s.heap.push { cls:=.type "range",data:=.fields #[.int lo t,.int hi u,.int 1 v] },toks:=tk }:=by
 refine wpAny_pyIter_range (IsRange.new ..) (small_one h1 h2 h3 h4) ?_;have I1:Inv X pins σ H { s with heap:=s.heap.push { cls:=.type "range",data:=.fields #[.int lo t,.int hi u,.int 1 v] },toks:=tk }:=I.kept λb o e=>Zad _ e;refine⟨(s.heap.push { cls:=.type "range",data:=.fields #[.int lo t,.int hi u,.int 1 v] }).objs.size,[(s.heap.push { cls:=.type "range",data:=.fields #[.int lo t,.int hi u,.int 1 v] }).objs.size],_,_,H,rfl,
  I1.kept (t':=tk) λb o e=>Zad _ e,Bt _ lo (hi-lo).toNat,?_,λb hb=>?_,q⟩
 ·have e1:lo+((0:Nat):Int)*1=lo:=by simp
  have e2:(((hi-lo).toNat:Nat):Int)-((0:Nat):Int)=Builtin.Range.rangeSize lo hi 1:=by rw[rangeSize_one];split<;>omega
  show IsRangeIter _ _ (lo+((0:Nat):Int)*1) ((((hi-lo).toNat:Nat):Int)-((0:Nat):Int)) 1
  rw[e1,e2];exact Zas _ rfl
 ·have e:b=(s.heap.push { cls:=.type "range",data:=.fields #[.int lo t,.int hi u,.int 1 v] }).objs.size:=by simpa using hb
  subst e;exact I1.R8 (Zak _) (I1.hok.fresh (Zak _))
def IK(ta:TA):TI:=λσ H R=>ta σ H λvs H1=>∃ j:Int,vs=[.int j]/\-(2^62)<=j/\j<2^62/\R (Itr 0 j.toNat) H1
def OD(ta:TA):TI:=λσ H R=>ta σ H λvs H1=>∃ i j:Int,vs=[.int i,.int j]/\(-(2^62)<=i/\i<2^62/\-(2^62)<=j/\j<2^62)/\R (Itr i (j-i).toNat) H1
theorem mJ{a:Expr}{ta:TA}{p pos:Pos}(hg:Gl X "range")(hm:X.mg "range"=none)(ha:PA X [a] ta)(hs:starEach [a] X.env=[(false,eval a X.env)]:=by rfl):PI X tg (.Call (.Name "range" p) [a] [] pos) (IK ta):=by
 intro pins s σ H R I h;refine Call_ (sE I hg hm boot_range (Zba (thn (ha pos pins s σ H _ I h) ?_) hs rfl));rintro us s1 ⟨vs,H1,I1,r1,q1⟩;obtain⟨j,e,q1,q2,q⟩:=q1;subst e;cases r1 with
 |cons r rr=>
  cases rr;obtain⟨t,rfl⟩:=r;exact call_range_1 (yP I1 (by omega) (by omega) q1 q2 (by simpa using q))
theorem pP{a b:Expr}{ta:TA}{p pos:Pos}(hg:Gl X "range")(hm:X.mg "range"=none)(ha:PA X [a,b] ta)(hs:starEach [a,b] X.env=[(false,eval a X.env),(false,eval b X.env)]:=by rfl)(hs2:starEach [b] X.env=[(false,eval b X.env)]:=by rfl) :
  PI X tg (.Call (.Name "range" p) [a,b] [] pos) (OD ta):=by
 intro pins s σ H R I h;refine Call_ (sE I hg hm boot_range (Zba (thn (ha pos pins s σ H _ I h) ?_) (by rw[hs,hs2]) (by rw[hs2];rfl)))
 rintro us s1 ⟨vs,H1,I1,r1,q1⟩;obtain⟨i,j,e,⟨q1,q2,q3,q4⟩,q⟩:=q1;subst e;cases r1 with
 |cons r rr=>
  cases rr with
  |cons r' rr=>
   cases rr;obtain⟨t,rfl⟩:=r;obtain⟨t',rfl⟩:=r';exact call_range_2 (yP I1 q1 q2 q3 q4 q)
def Qo(wi:TI)(g:TG)(tb:TS):TS:=λD σ H=>wi σ H λJ H1=>∃ W:Nat->Nat->St->Hp->Prop,(∃ m,W 0 m σ H1)/\∀ i m σ H,W i m σ H ->
 (J.stop i H/\D.nx σ H)\/(J.go i H/\∃ N:St->Hp->Prop,(∀ σ' H',N σ' H'->∃ m',m'<m/\W (i+1) m' σ' H')/\∀ x H',J.yld i H x H'->g x σ H' λσ2 H2=>tb { D with nx:=N,ct:=N,bk:=D.nx } σ2 H2)
def sI(fp:List Addr)(h:Heap):List (Addr×Obj):=fp.filterMap λb=>(h.get? b).map λo=>(b,o)
theorem jL{fp:List Addr}{h:Heap}{b:Addr}{o:Obj}(hb:b∈fp)(e:h.get? b=some o):(b,o)∈sI fp h:=List.mem_filterMap.mpr ⟨b,hb,by rw[e];rfl⟩
theorem Gv{fp:List Addr}{h:Heap}{p:Addr×Obj}(hp:p∈sI fp h):p.1∈fp/\h.get? p.1=some p.2:=by
 obtain⟨b,hb,e⟩:=List.mem_filterMap.mp hp;cases q:h.get? b with
 |none=>rw[q] at e;cases e
 |some o=>
  rw[q] at e;have e':(b,o)=p:=Zaa e;subst e';exact⟨hb,q⟩
theorem Inv.pinned{pins:List (Addr×Obj)}{σ:St}{H:Hp}{s:Shared}{fp:List Addr}(I:Inv X pins σ H s)(hf:∀ b∈fp,yO X pins H b)(ho:∀ b∈fp,∃ o,s.heap.get? b=some o/\∀ v,o.data≠.cell v):Inv X (pins++sI fp s.heap) σ H s:=
 I.DP λp hp=>(List.mem_append.mp hp).elim (λz=>I.pin p (ZaD _ z)) λz=>by
  obtain⟨hb,e⟩:=Gv z;obtain⟨f0,f1,f2,_⟩:=hf p.1 hb;obtain⟨o,e',d⟩:=ho p.1 hb;rw[e] at e';cases e';exact⟨e,f0,f1,f2,d⟩
theorem Inv.oH{pins pl:List (Addr×Obj)}{σ:St}{H:Hp}{s:Shared}(I:Inv X (pins++pl) σ H s):Inv X pins σ H s:=I.DP λp hp=>I.pin p (ZaD _ (List.mem_append_left _ hp))
theorem jM{iter:Expr}{body:List Stmt}{wi:TI}{g:TG}{tb:TS}{pos:Pos}(hp:PassesOwn (model X.prog X.w) X.A X.env X.xe)(hc:X.calm=true)(hi:PI X tg iter wi)(hg:PG X tg g)(hb:PSs X body tb)
  (hs:∀ x,foldedSetIterable iter X.env x=pure x:=by intro _;rfl):PS X (.For tg iter body [] pos) (Qo wi g tb):=by
 intro pins s σ H D I h;refine wpAny_For (thn (hi pins s σ H _ I h) λv s1 h1=>thn h1 λitv s2 h2=>?_) hs;obtain⟨it,fp,tn,J,H2,e,I2,T,st2,f2,W,⟨m0,w0⟩,turn⟩:=h2;subst e;have stat:∀ {H':Hp},(∀ b∈fp,H' b=none)->∀ b∈fp,yO X pins H' b:=λhn b hb=>⟨hn b hb,(f2 b hb).2⟩;refine codeAny_forLoop_any (λn s'=>∃ i σ' H',Inv X pins σ' H' s'/\tn i s'.heap/\(∀ b∈fp,H' b=none)/\W i n σ' H') ?_ m0 ⟨0,σ,H2,I2,st2,λb hb=>(f2 b hb).1,w0⟩;rintro n s3 ⟨i,σ3,H3,I3,st3,fr3,w3⟩;rcases turn i n σ3 H3 w3 with⟨stop,qn⟩|⟨go,N,hN,step⟩
 ·refine wpAny_passesOwn hp (thn (T.done X rfl rfl rfl hc i pins s3 σ3 H3 X.xe I3 (stat fr3) st3 stop) ?_);rintro r s4 ⟨hr,I4⟩;subst hr;exact wpAny_execs_nil ⟨σ3,H3,I4,qn⟩
 ·refine wpAny_passesOwn hp (thn (T.item X rfl rfl rfl hc i pins s3 σ3 H3 X.xe I3 (stat fr3) st3 go) ?_);rintro r s4 ⟨u,hr,h4⟩;subst hr;refine wpAny_passesOwn hp (thn h4 ?_);rintro _ s5 ⟨x,H5,I5,r5,y5,st5,fr5⟩;have I5':=I5.pinned (stat fr5) (T.obj _ _ st5);refine wpAny_passesOwn hp (thn (hg _ s5 σ3 H5 x u _ I5' r5 (step x H5 y5)) ?_);rintro _ s6 ⟨σ6,H6,I6,q6⟩;refine wpAny_passesOwn hp (thn (hb _ s6 σ6 H6 _ I6 q6) λf s7 q7=>?_);have again:∀ {σ7:St}{H7:Hp},Inv X (pins++sI fp s5.heap) σ7 H7 s7->N σ7 H7->∃ m,m<n/\∃ i σ' H',Inv X pins σ' H' s7/\tn i s7.heap/\(∀ b∈fp,H' b=none)/\W i m σ' H':=λ{σ7 H7} I7 n7=>by
   obtain⟨m',hm,w7⟩:=hN σ7 H7 n7;refine⟨m',hm,i+1,σ7,H7,I7.oH,T.keep _ _ _ st5 λb hb o e=>(I7.pin (b,o) (ZaD _ (ZaD _ (jL hb e)))).1,λb hb=>?_,w7⟩;obtain⟨o,e,d⟩:=T.obj _ _ st5 b hb;exact(I7.pin (b,o) (ZaD _ (ZaD _ (jL hb e)))).2.1
  cases f with
  |next=>obtain⟨σ7,H7,I7,n7⟩:=q7;exact again I7 n7
  |cont=>obtain⟨σ7,H7,I7,n7⟩:=q7;exact again I7 n7
  |brk=>obtain⟨σ7,H7,I7,q7⟩:=q7;exact⟨σ7,H7,I7.oH,q7⟩
  |ret v=>obtain⟨x7,σ7,H7,I7,r7,q7⟩:=q7;exact⟨x7,σ7,H7,I7.oH,r7,q7⟩
end
noncomputable abbrev R2:=V->V->Hp->VK->Prop
def OpR(X:Cx)(f:Value->Value->Sem Value)(r:R2):Prop:=
 ∀ (pins:List (Addr×Obj)) (s:Shared) (σ:St) (H:Hp) (x y:V) (v u:Value) (Q:VK),Inv X pins σ H s->RelV x v->RelV y u->r x y H Q ->
  wpAny (model X.prog X.w) X.A (f v u) (EP X pins σ Q) X.xe s
def UnR(X:Cx)(f:Value->Sem Value)(r:V->Hp->VK->Prop):Prop:=
 ∀ (pins:List (Addr×Obj)) (s:Shared) (σ:St) (H:Hp) (x:V) (v:Value) (Q:VK),Inv X pins σ H s->RelV x v->r x H Q ->
  wpAny (model X.prog X.w) X.A (f v) (EP X pins σ Q) X.xe s
def lq(X:Cx)(f:Value)(r:List V->Hp->VK->Prop):Prop:=
 ∀ (pins:List (Addr×Obj)) (s:Shared) (σ:St) (H:Hp) (xs:List V) (us:List Value) (Q:VK),Inv X pins σ H s->Vals xs us->r xs H Q ->
  wpAny (model X.prog X.w) X.A (call f us) (EP X pins σ Q) X.xe s
def tOp(r:R2)(ta tb:TE):TE:=λσ H Q=>ta σ H λx H1=>tb σ H1 λy H2=>r x y H2 Q
def tUn(r:V->Hp->VK->Prop)(ta:TE):TE:=λσ H Q=>ta σ H λx H1=>r x H1 Q
def rI(C:Int->Int->Prop)(g:Int->Int->V):R2:=λx y H Q=>∃ i j,x=.int i/\y=.int j/\C i j/\Q (g i j) H
def rI0(g:Int->Int->V):R2:=λx y H Q=>∃ i j,x=.int i/\y=.int j/\Q (g i j) H
def rU(g:Int->V):V->Hp->VK->Prop:=λx H Q=>∃ i,x=.int i/\Q (g i) H
section
variable{X:Cx}{a b:Expr}{ta tb:TE}{pos:Pos}
theorem Qp(ha:PE X a ta)(hb:PE X b tb){pins:List (Addr×Obj)}{s:Shared}{σ:St}{H:Hp}{R:V->V->Hp->Prop}(I:Inv X pins σ H s)
  (h:ta σ H λx H1=>tb σ H1 λy H2=>R x y H2){Q:Value->Shared->Prop}{f:Value->Value->Sem Value}
  (hf:∀ v u s2 x y H2,Inv X pins σ H2 s2->RelV x v->RelV y u->R x y H2->wpAny (model X.prog X.w) X.A (f v u) Q X.xe s2) :
  wpAny (model X.prog X.w) X.A (eval a X.env) (λv s₁=>wpAny (model X.prog X.w) X.A (eval b X.env) (λu s₂=>wpAny (model X.prog X.w) X.A (f v u) Q X.xe s₂) X.xe s₁) X.xe s:=by
 refine thn (ha pins s σ H _ I h) ?_;rintro v s1 ⟨x,H1,I1,r1,q1⟩;refine thn (hb pins s1 σ H1 _ I1 q1) ?_;rintro u s2 ⟨y,H2,I2,r2,q2⟩;exact hf v u s2 x y H2 I2 r1 r2 q2
theorem aR{op:Operator}{r:R2}(ho:OpR X (binaryOp op) r)(ha:PE X a ta)(hb:PE X b tb):PE X (.BinOp a op b pos) (tOp r ta tb):=by
 intro pins s σ H Q I h;exact wpAny_BinOp (Qp ha hb I h λv u s2 x y H2 I2 rx ry q=>ho pins s2 σ H2 x y v u Q I2 rx ry q)
theorem R9{op:UnaryOp}{r:V->Hp->VK->Prop}(ho:UnR X (unaryOp op) r)(ha:PE X a ta):PE X (.UnaryOp op a pos) (tUn r ta):=by
 intro pins s σ H Q I h;exact UnaryOp_ (thn (ha pins s σ H _ I h) λv s1 ⟨x,H1,I1,r1,q1⟩=>ho pins s1 σ H1 x v Q I1 r1 q1)
theorem opI{f:Value->Value->Sem Value}{C:Int->Int->Prop}{g:Int->Int->Int}
  (rule:∀ (i j:Int) (t u:Tok) (s:Shared) (Q:Value->Shared->Prop) (E:Value->Shared->Prop),C i j->Q (.int (g i j) s.toks) { s with toks:=s.toks+1 }->wpAny (model X.prog X.w) X.A (f (.int i t) (.int j u)) Q E s) :
  OpR X f (rI C λi j=>.int (g i j)):=by
 intro pins s σ H x y v u Q I rx ry h;obtain⟨i,j,rfl,rfl,hc,q⟩:=h;obtain⟨t,rfl⟩:=rx;obtain⟨t',rfl⟩:=ry;exact rule i j t t' s _ _ hc ⟨.int (g i j),H,I.tok _,⟨_,rfl⟩,q⟩
theorem IV{f:Value->Value->Sem Value}{g:Int->Int->Int}
  (rule:∀ (i j:Int) (t u:Tok) (s:Shared) (Q:Value->Shared->Prop) (E:Value->Shared->Prop),Q (.int (g i j) s.toks) { s with toks:=s.toks+1 }->wpAny (model X.prog X.w) X.A (f (.int i t) (.int j u)) Q E s) :
  OpR X f (rI0 λi j=>.int (g i j)):=by
 intro pins s σ H x y v u Q I rx ry h;obtain⟨i,j,rfl,rfl,q⟩:=h;obtain⟨t,rfl⟩:=rx;obtain⟨t',rfl⟩:=ry;exact rule i j t t' s _ _ ⟨.int (g i j),H,I.tok _,⟨_,rfl⟩,q⟩
theorem Qq{f:Value->Value->Sem Value}{g:Int->Int->Bool}
  (rule:∀ (i j:Int) (t u:Tok) (s:Shared) (Q:Value->Shared->Prop) (E:Value->Shared->Prop),Q (.bool (g i j)) s->wpAny (model X.prog X.w) X.A (f (.int i t) (.int j u)) Q E s) :
  OpR X f (rI0 λi j=>.bl (g i j)):=by
 intro pins s σ H x y v u Q I rx ry h;obtain⟨i,j,rfl,rfl,q⟩:=h;obtain⟨t,rfl⟩:=rx;obtain⟨t',rfl⟩:=ry;exact rule i j t t' s _ _ ⟨.bl (g i j),H,I,rfl,q⟩
def Qs(i j:Int):Prop:=0<j/\j<1073741824
def IW(i j:Int):Prop:=0<=j/\j<=1000000/\i.natAbs<2^64
def Bu(i j:Int):Prop:=(-(2^64)<i/\i<2^64)\/(-(2^64)<j/\j<2^64)
theorem Bu.ok{i j:Int}(h:Bu i j):IntMulOk i j:=by
 rcases h with⟨h1,h2⟩|⟨h1,h2⟩
 ·exact .of_left (intBits_le_64 h1 h2)
 ·exact .of_right (intBits_le_64 h1 h2)
theorem Qt:OpR X (binaryOp .Add) (rI0 λi j=>.int (i+j)):=IV λ_ _ _ _ _ _ _ q=>add_int q
theorem Bv:OpR X (binaryOp .Sub) (rI0 λi j=>.int (i-j)):=IV λ_ _ _ _ _ _ _ q=>sub_int q
theorem Qu:OpR X (binaryOp .Mult) (rI Bu λi j=>.int (i*j)):=opI λ_ _ _ _ _ _ _ hc q=>mul_int q hc.ok
theorem iy:OpR X (binaryOp .FloorDiv) (rI Qs λi j=>.int (i/j)):=opI λi j _ _ _ _ _ hc q=>by
 have h1:(0:Int)<j:=hc.1;have h2:j<1073741824:=hc.2;exact floordiv_int (by omega) (by rw[Int.fdiv_eq_ediv_of_nonneg i (by omega)];exact q) (.inl (PyProof.noPylong_small (by omega)))
theorem d8:OpR X (binaryOp .Mod) (rI (λ_ j=>0<j) λi j=>.int (i%j)):=opI λi j _ _ _ _ _ hc q=>by
 have h1:(0:Int)<j:=hc;exact mod_int' (by omega) (by rw[Int.fmod_eq_emod_of_nonneg i (by omega)];exact q)
theorem Ja:OpR X (binaryOp .Pow) (rI IW λi j=>.int (i^j.toNat)):=opI λ_ _ _ _ _ _ _ hc q=>pow_int_small hc.1 hc.2.1 hc.2.2 q
theorem wH:OpR X (binaryOp .LShift) (rI IW λi j=>.int (i*2^j.toNat)):=opI λ_ _ _ _ _ _ _ hc q=>lshift_int_small hc.1 hc.2.1 hc.2.2 q
theorem Jb:OpR X (binaryOp .BitAnd) (rI0 λi j=>.int (Builtin.bitAnd i j)):=IV λ_ _ _ _ _ _ _ q=>and_int q
theorem Jc:OpR X (binaryOp .BitOr) (rI0 λi j=>.int (Builtin.bitOr i j)):=IV λ_ _ _ _ _ _ _ q=>or_int q
theorem Qv:OpR X (binaryOp .BitXor) (rI0 λi j=>.int (Builtin.bitXor i j)):=IV λ_ _ _ _ _ _ _ q=>xor_int q
theorem unI{f:Value->Sem Value}{g:Int->Int}
  (rule:∀ (i:Int) (t:Tok) (s:Shared) (Q:Value->Shared->Prop) (E:Value->Shared->Prop),Q (.int (g i) s.toks) { s with toks:=s.toks+1 }->wpAny (model X.prog X.w) X.A (f (.int i t)) Q E s) :
  UnR X f (rU λi=>.int (g i)):=by
 intro pins s σ H x v Q I rx h;obtain⟨i,rfl,q⟩:=h;obtain⟨t,rfl⟩:=rx;exact rule i t s _ _ ⟨.int (g i),H,I.tok _,⟨_,rfl⟩,q⟩
theorem Qw:UnR X (unaryOp .Invert) (rU λi=>.int (Builtin.bitNot i)):=unI λ_ _ _ _ _ q=>invert_int q
end
section
variable{X:Cx}{a b c:Expr}{ta tb tc:TE}{pos:Pos}
theorem wI{pins:List (Addr×Obj)}{σ:St}{H:Hp}{s:Shared}{Q:VK}{k k':Bool}(I:Inv X pins σ H s)(q:Q (.bl k) H)(e:k=k'):EP X pins σ Q (.bool k') s:=by
 subst e;exact⟨.bl k,H,I,rfl,q⟩
theorem Sd:OpR X (compareOp .Lt) (rI0 λi j=>.bl (decide (i<j))):=Qq λ_ _ _ _ _ _ _ q=>lt_int q
theorem Sg:OpR X (compareOp .LtE) (rI0 λi j=>.bl (decide (i<=j))):=Qq λ_ _ _ _ _ _ _ q=>le_int q
theorem Sh:OpR X (compareOp .GtE) (rI0 λi j=>.bl (decide (j<=i))):=Qq λ_ _ _ _ _ _ _ q=>ge_int q
theorem Gw:OpR X (compareOp .Lt) (λx y H Q=>∃ i j,x=.str i/\y=.str j/\Q (.bl (decide (i.cps.toList<j.cps.toList))) H):=by
 intro pins s σ H x y v u Q I rx ry h;obtain⟨i,j,rfl,rfl,q⟩:=h;obtain⟨t,rfl⟩:=rx;obtain⟨t',rfl⟩:=ry;exact lt_str (wI I q rfl)
theorem Gx:OpR X (compareOp .In) (λx y H Q=>∃ i j,x=.str i/\y=.str j/\Q (.bl (!(Builtin.Str.occurrences j i 0 j.length 1).isEmpty)) H):=by
 intro pins s σ H x y v u Q I rx ry h;obtain⟨i,j,rfl,rfl,q⟩:=h;obtain⟨t,rfl⟩:=rx;obtain⟨t',rfl⟩:=ry;exact in_str (wI I q rfl)
theorem wJ:OpR X (compareOp .NotIn) (λx y H Q=>∃ i j,x=.str i/\y=.str j/\Q (.bl (!(!(Builtin.Str.occurrences j i 0 j.length 1).isEmpty))) H):=by
 intro pins s σ H x y v u Q I rx ry h;obtain⟨i,j,rfl,rfl,q⟩:=h;obtain⟨t,rfl⟩:=rx;obtain⟨t',rfl⟩:=ry;exact notIn_str (wI I q rfl)
theorem OpR.or{f:Value->Value->Sem Value}{r r':R2}(h:OpR X f r)(h':OpR X f r'):OpR X f (λx y H Q=>r x y H Q\/r' x y H Q):=by
 intro pins s σ H x y v u Q I rx ry q;rcases q with q|q
 ·exact h pins s σ H x y v u Q I rx ry q
 ·exact h' pins s σ H x y v u Q I rx ry q
theorem cW(b:Expr){op:CmpOp}(h:op≠.In:=by decide)(h2:op≠.NotIn:=by decide):behindInMarks op b=false:=by
 have e1:(op==CmpOp.In)=false:=by cases op<;>first|rfl|exact absurd rfl h
 have e2:(op==CmpOp.NotIn)=false:=by cases op<;>first|rfl|exact absurd rfl h2
 cases b<;>simp[behindInMarks,e1,e2]
theorem mK{op:CmpOp}{r:R2}(ho:OpR X (compareOp op) r)(ha:PE X a ta)(hb:PE X b tb)(hm:behindInMarks op b=false):PE X (.Compare a [op] [b] pos) (tOp r ta tb):=by
 intro pins s σ H Q I h;exact wpAny_Compare1 (Qp ha hb I h λv u s2 x y H2 I2 rx ry q=>ho pins s2 σ H2 x y v u Q I2 rx ry q) hm
def DW(t:TE):TT:=λσ H Q=>t σ H λx H'=>∃ k,x=.bl k/\Q k H'
theorem cG{op:CmpOp}{r:R2}(ho:OpR X (compareOp op) r)(ha:PE X a ta)(hb:PE X b tb)(hm:behindInMarks op b=false):PT X (.Compare a [op] [b] pos) (DW (tOp r ta tb)):=by
 intro pins s σ H Q I h;refine wpAny_isTrue_Compare1 (thn (ha pins s σ H _ I h) λv s1 ⟨x,H1,I1,r1,q1⟩=>thn (hb pins s1 σ H1 _ I1 q1) λu s2 ⟨y,H2,I2,r2,q2⟩=>
  thn (ho pins s2 σ H2 x y v u _ I2 r1 r2 q2) λc s3 ⟨z,H3,I3,r3,k,e,q3⟩=>?_) hm
 subst e;cases r3;exact wpAny_truthy_bool ⟨H3,I3,q3⟩
def Bw(r r':R2)(ta tb tc:TE):TE:=λσ H Q=>ta σ H λx H1=>tb σ H1 λy H2=>r x y H2 λz H3=>∃ k,z=.bl k /\
 (if k=true then tc σ H3 λw' H4=>r' y w' H4 Q else Q (.bl false) H3)
theorem yQ{op op':CmpOp}{r r':R2}(ho:OpR X (compareOp op) r)(ho':OpR X (compareOp op') r')(ha:PE X a ta)(hb:PE X b tb)(hc:PE X c tc)
  (hm:lastMarks [op,op'] [b,c]=false:=by with_unfolding_all rfl):PE X (.Compare a [op,op'] [b,c] pos) (Bw r r' ta tb tc):=by
 intro pins s σ H Q I h;refine Compare_chain (thn (ha pins s σ H _ I h) λv s1 ⟨x,H1,I1,r1,q1⟩=>chain_link (thn (hb pins s1 σ H1 _ I1 q1) λu s2 ⟨y,H2,I2,r2,q2⟩=>
  thn (ho pins s2 σ H2 x y v u _ I2 r1 r2 q2) λd s3 ⟨z,H3,I3,r3,k,e,q3⟩=>?_)) hm
 subst e;cases r3;refine wpAny_truthy_bool ?_;cases k with
 |false=>exact ite_ff ⟨.bl false,H3,I3,rfl,q3⟩
 |true=>exact ite_tt (chain_last (thn (hc pins s3 σ H3 _ I3 q3) λw' s4 ⟨z',H4,I4,r4,q4⟩=>ho' pins s4 σ H4 y z' u w' Q I4 r2 r4 q4))
theorem Jd{op op':CmpOp}{r r':R2}(ho:OpR X (compareOp op) r)(ho':OpR X (compareOp op') r')(ha:PE X a ta)(hb:PE X b tb)(hc:PE X c tc)
  (hm:lastMarks [op,op'] [b,c]=false:=by with_unfolding_all rfl):PT X (.Compare a [op,op'] [b,c] pos) (DW (Bw r r' ta tb tc)):=by
 intro pins s σ H Q I h;refine isTrue_chain (thn (ha pins s σ H _ I h) λv s1 ⟨x,H1,I1,r1,q1⟩=>test_link (thn (hb pins s1 σ H1 _ I1 q1) λu s2 ⟨y,H2,I2,r2,q2⟩=>
  thn (ho pins s2 σ H2 x y v u _ I2 r1 r2 q2) λd s3 ⟨z,H3,I3,r3,k,e,q3⟩=>?_)) hm
 subst e;cases r3;refine wpAny_truthy_bool ?_;cases k with
 |false=>
  obtain⟨k',e',q'⟩:=q3;cases e';exact ite_ff ⟨H3,I3,q'⟩
 |true=>
  refine ite_tt (test_last (thn (hc pins s3 σ H3 _ I3 q3) λw' s4 ⟨z',H4,I4,r4,q4⟩=>thn (ho' pins s4 σ H4 y z' u w' _ I4 r2 r4 q4) ?_));rintro d' s5 ⟨z2,H5,I5,r5,k2,e2,q5⟩;subst e2;cases r5;exact wpAny_truthy_bool ⟨H5,I5,q5⟩
theorem sJ:(sizeLine:Nat)<2^63:=by rw[sizeLine_eq];decide
theorem Bx:OpR X (binaryOp .Add) (λx y H Q=>∃ i j,x=.str i/\y=.str j/\i.length+j.length<=sizeLine/\Q (.str (i++j)) H):=by
 intro pins s σ H x y v u Q I rx ry h;obtain⟨i,j,rfl,rfl,hz,q⟩:=h;obtain⟨t,rfl⟩:=rx;obtain⟨t',rfl⟩:=ry;exact add_str (λt' tk=>⟨.str (i++j),H,I.tok _,⟨_,rfl⟩,q⟩) hz
theorem vals1{x:V}{us:List Value}(r:Vals [x] us):∃ u,us=[u]/\RelV x u:=by
 cases r with
 |cons r1 r2=>cases r2;exact⟨_,rfl,r1⟩
theorem Gy:lq X (.type "int") (λxs H Q=>(∃ i,xs=[.int i]/\Q (.int i) H)\/∃ k,xs=[.bl k]/\Q (.int (if k then 1 else 0)) H):=by
 intro pins s σ H xs us Q I r h;rcases h with⟨i,rfl,q⟩|⟨k,rfl,q⟩
 ·obtain⟨u,rfl,t,rfl⟩:=vals1 r;exact call_int_int ⟨.int i,H,I,⟨_,rfl⟩,q⟩
 ·obtain⟨u,rfl,r1⟩:=vals1 r;cases r1;exact call_int_bool ⟨.int (if k then 1 else 0),H,I.tok _,⟨_,rfl⟩,q⟩
def Sq(K:PySem.W.Frag)(x:V)(H:Hp)(n:Nat):Prop:=
 match x with
 |.str y=>y.length<=sizeLine/\n=y.length
 |.byt y=>y.size<=sizeLine/\n=y.size
 |.ref p=>(∃ xs,SqL K H p xs/\n=xs.length)\/∃ xs,SqT K H p xs/\n=xs.length
 |_=>False
theorem lr:lq X (.builtin "len") (λxs H Q=>∃ x n,xs=[x]/\Sq X.K x H n/\Q (.int n) H):=by
 intro pins s σ H xs us Q I r h;obtain⟨x,n,rfl,e,q⟩:=h;obtain⟨u,rfl,rx⟩:=vals1 r;have hl:=sJ;have hs:sizeLine=16777216:=sizeLine_eq;cases x with
 |str y=>
  obtain⟨t,rfl⟩:=rx;obtain⟨hy,e'⟩:y.length<=sizeLine/\n=y.length:=e;subst e';exact len_str (by lia) ⟨.int _,H,I.tok _,⟨_,rfl⟩,q⟩
 |byt y=>
  obtain⟨t,rfl⟩:=rx;obtain⟨hy,e'⟩:y.size<=sizeLine/\n=y.size:=e;subst e';exact PySem.W.len_bytes (by lia) ⟨.int _,H,I.tok _,⟨_,rfl⟩,q⟩
 |ref p=>
  cases rx;have e':(∃ xs,SqL X.K H p xs/\n=xs.length)\/∃ xs,SqT X.K H p xs/\n=xs.length:=e;rcases e' with⟨xs,hx,e'⟩|⟨xs,hx,e'⟩
  ·subst e';obtain⟨its,r',pl,hz⟩:=I.list hx;have hlen:=r'.length;exact Calls.call_len_list pl.isList (by simp only[List.size_toArray];lia) ⟨.int xs.length,H,I.tok _,⟨_,by simp only[List.size_toArray];rw[hlen]⟩,q⟩
  ·subst e';obtain⟨its,r',pl,hz⟩:=I.tuple hx;have hlen:=r'.length;exact len_tuple pl (by simp only[List.size_toArray];lia) ⟨.int xs.length,H,I.tok _,⟨_,by simp only[List.size_toArray];rw[hlen]⟩,q⟩
 |_=>exact(show False from e).elim
end
structure By(h:Heap)(x dx C:Addr)(mA:Str->Option Value):Prop where
 obj:h.get? x=some (instObj C dx)
 ns:h.Ns1 dx mA
 ne:dx≠x
theorem pQ{h:Heap}{dx:Addr}{mA:Str->Option Value}(n:h.Ns1 dx mA):∃ od,h.get? dx=some od/\∀ name,PySem.W.lookIn name od=some (mA name):=by
 obtain⟨o,es,ep,ho,hd,hk,_,hm⟩:=n;refine⟨o,ho,λname=>?_⟩;have e:=hm name;unfold nsFind findBy at e;rw[<-Array.find?_toList] at e;unfold PySem.W.lookIn;rw[hd];dsimp only;split
 ·rename_i y q;rw[q] at e;exact Zbi some e
 ·rename_i q;rw[q] at e;have a:es.toList.any (·.refKey)=false:=by
   rw[List.any_eq_false];intro y hy;obtain⟨z,t,hkey⟩:=hk y (Array.mem_toList_iff.mp hy);simp[DictEntry.refKey,hkey]
  have a':¬es.toList.any (·.refKey)=true:=by rw[a];exact ZbI
  rw[Zaf a'];exact Zbi some e
theorem By.look{h:Heap}{x dx C:Addr}{mA:Str->Option Value}(I:By h x dx C mA):∃ od,PySem.W.InstAt h x (instObj C dx) C (some od)/\∀ name,PySem.W.lookIn name od=some (mA name):=
 let⟨od,ho,hl⟩:=pQ I.ns
 ⟨od,⟨I.obj,rfl,rfl,ho⟩,hl⟩
section
variable{prog:Program}{w:World}{A:Around}{E:Value->Shared->Prop}{s:Shared}{K:PySem.W.Frag}{x dx C f:Addr}{mA:Str->Option Value}{name:Str}{v:Value}
theorem Lx{expr:Bool}{Q:Value->Shared->Prop}(X:K.In s.heap)(I:By s.heap x dx C mA)(hg:PySem.W.plainGet K C name=true)(hh:PySem.W.hasDictIn K C=true)
  (ha:PySem.W.findIn K (.ref C) name=some none)(hv:mA name=some v)(hv':PySem.W.handedIn v=true)(h:Q v { s with toks:=s.toks+1 }) :
  wpAny (model prog w) A (getAttr (.ref x) name expr) Q E s:=by
 obtain⟨od,J,hl⟩:=I.look;exact PySem.W.get_value X J (ZbA hg).1 (PySem.W.findObj_own hh ha rfl (by rw[hl,hv])) hv' h
theorem Je{pl:Sem Bool}{Q:Value×List Value->Shared->Prop}(X:K.In s.heap)(I:By s.heap x dx C mA)(hg:PySem.W.plainGet K C name=true)
  (hf:PySem.W.findIn K (.ref C) name=some (some (.ref f)))(ht:isFn K (.ref f)=true)(hv:mA name=none)(h:Q (.ref f,[.ref x]) s) :
  wpAny (model prog w) A (getMethod (.ref x) name pl) Q E s:=by
 obtain⟨od,J,hl⟩:=I.look;exact PySem.W.method_fn X J (ZbA hg).1 (ZbA hg).2 hf (beq_iff_eq.mp ht) (by show(PySem.W.lookIn name od).map (·.isSome)=some false;rw[hl,hv];rfl) h
theorem Ly{ns:List Str}{Q:Unit->Shared->Prop}(X:K.In s.heap)(I:By s.heap x dx C mA)
  (hs:PySem.W.findIn K (.ref C) "__setattr__"=some (some (.builtin "object.__setattr__")))(hp:PySem.W.plainOver K C=true)(ht:PySem.W.takerIn K C name=some none)(hh:PySem.W.hasDictIn K C=true)
  (hw:PySem.Within mA ns)(hsz:ns.length<=sizeLine)
  (h:∀ h',By h' x dx C (λy=>if y=name then some v else mA y)->Heap.SameBut dx s.heap h'->Q () { s with heap:=h',toks:=s.toks+2 }) :
  wpAny (model prog w) A (setAttr (.ref x) name v) Q E s:=by
 obtain⟨od,J,hl⟩:=I.look;refine PySem.W.set_plain X J hs (PySem.W.osa_open (s:={ s with toks:=s.toks+1 }) (r:=none) X J hp ht λb=>?_);obtain⟨cd,hc,hd'⟩:=PySem.W.any_some hh;have hx:s.heap.get? x=some ⟨.ref C,some dx,.plain,#[]⟩:=I.obj;refine Zab (Zal (Zab (Zab (wpAny_loadPart hx (Zab (PySem.W.Looks.here (s:={ s with toks:=s.toks+1 }) (PySem.W.looks_clsIn X hc) ?_))))));rw[hd'];refine Zal (a:=some dx) (Zab (Zal (Zab ?_)));refine wpAny_nsSet1 (s:={ s with toks:=s.toks+1 }) I.ns λh' hn2 hs2=>?_;obtain⟨oD,esD,epD,hoD,hdD,hcD⟩:=hn2.count (PySem.Within.cons name v hw);refine Zab (wpAny_lookBehind hoD (by rw[hdD];exact pastItsLine_dict (Zau hcD (by rw[Zax];omega))) ?_)
 exact Zal (h _ ⟨(hs2.2 _ (ZaS I.ne)).trans I.obj,hn2,I.ne⟩ hs2)
theorem Jf{R:Result->Shared->Prop}{vs:List Value}{kw:List (Str×Value)}(X:K.In s.heap)(hm:PySem.W.makesIn K C=true)
  (hi:PySem.W.findIn K (.ref C) "__init__"=some (some (.ref f)))(hf:PySem.W.typeIn K (.ref f)=some (.type "function"))
  (h:codeAny (model prog w) (A.under (.builtin "type.__call__" ⟨.ref C::vs,kw⟩)) (.call (.ref f) ⟨.ref (s.heap.objs.size+1)::vs,kw⟩) (PySem.W.InitBack (s.heap.objs.size+1) R)
   { s with heap:=(s.heap.push emptyDict).push (instObj C s.heap.objs.size) }) :
  codeAny (model prog w) A (.call (.ref C) ⟨vs,kw⟩) R s:=by
 obtain⟨hh,g,d,t,os⟩:=s;exact PySem.W.make_core (PySem.W.makes_of X hm) (PySem.W.looks_findIn X hi) (λself=>PySem.W.bind_fn X self hf) (.inl rfl) h
end
def kO(f:Str)(v:V):List (Str×V)->List (Str×V)
 |[]=>[(f,v)]
 |(g,x)::r=>if g=f then(g,v)::r else(g,x)::kO f v r
theorem qD(f g:Str)(v:V):∀ fs:List (Str×V),(kO f v fs).lookup g=if g=f then some v else fs.lookup g
 |[]=>by
  show List.lookup g [(f,v)]=_
  by_cases h:g=f
  ·have hb:(g==f)=true:=beq_iff_eq.mpr h;simp only[List.lookup,hb,Zae h]
  ·have hb:(g==f)=false:=beq_eq_false_iff_ne.mpr h;simp only[List.lookup,hb,Zaf h]
 |(k,x)::r=>by
  have ih:=qD f g v r;rw[show kO f v ((k,x)::r)=(if k=f then(k,v)::r else(k,x)::kO f v r) from rfl];by_cases hk:k=f
  ·rw[Zae hk];by_cases h:g=k
   ·have hb:(g==k)=true:=beq_iff_eq.mpr h;simp only[List.lookup,hb,Zae (h.trans hk)]
   ·have hb:(g==k)=false:=beq_eq_false_iff_ne.mpr h;simp only[List.lookup,hb,Zaf (λe:g=f=>h (e.trans hk.symm))]
  ·rw[Zaf hk];by_cases h:g=k
   ·have hb:(g==k)=true:=beq_iff_eq.mpr h;simp only[List.lookup,hb,Zaf (λe:g=f=>hk (h.symm.trans e))]
   ·have hb:(g==k)=false:=beq_eq_false_iff_ne.mpr h;simp only[List.lookup,hb];exact ih
theorem pR(f:Str)(v:V):∀ fs:List (Str×V),f∈(kO f v fs).map (·.1)/\∀ g,g∈fs.map (·.1)->g∈(kO f v fs).map (·.1)
 |[]=>⟨by simp[kO],λg h=>by simp at h⟩
 |(k,x)::r=>by
  obtain⟨i1,i2⟩:=pR f v r;rw[show kO f v ((k,x)::r)=(if k=f then(k,v)::r else(k,x)::kO f v r) from rfl];by_cases hk:k=f
  ·rw[Zae hk];subst hk;exact⟨by simp,λg h=>by simpa using h⟩
  ·rw[Zaf hk];refine⟨?_,λg h=>?_⟩
   ·rw[ZaA];exact Zat _ i1
   ·rw[ZaA] at h ⊢;rcases ZaB.mp h with e|e
    ·exact ZaB.mpr (.inl e)
    ·exact Zat _ (i2 g e)
theorem qF(f:Str)(v:V):∀ fs:List (Str×V),(kO f v fs).length<=fs.length+1
 |[]=>by simp[kO]
 |(k,x)::r=>by
  have ih:=qF f v r;rw[show kO f v ((k,x)::r)=(if k=f then(k,v)::r else(k,x)::kO f v r) from rfl];by_cases hk:k=f
  ·rw[Zae hk,Zax,Zax];omega
  ·rw[Zaf hk,Zax,Zax];omega
theorem kJ.some_of{v:V}{o:Option Value}(r:kJ (some v) o):∃ u,o=some u/\RelV v u:=by
 cases o with
 |none=>exact(show False from r).elim
 |some u=>exact⟨u,rfl,r⟩
theorem kJ.none_of{o:Option Value}(r:kJ none o):o=none:=by
 cases o with
 |none=>rfl
 |some u=>exact(show False from r).elim
theorem vB{v:V}{u:Value}(r:RelV v u):PySem.W.handedIn u=true:=by
 cases v with
 |non=>cases (show u=Value.none from r);rfl
 |bl b=>cases (show u=Value.bool b from r);rfl
 |int i=>obtain⟨t,e⟩:=(show ∃ t,u=Value.int i t from r);cases e;rfl
 |str x=>obtain⟨t,e⟩:=(show ∃ t,u=Value.str x t from r);cases e;rfl
 |byt b=>obtain⟨t,e⟩:=(show ∃ t,u=Value.bytes b t from r);cases e;rfl
 |flt b=>obtain⟨t,e⟩:=(show ∃ t,u=Value.float b t from r);cases e;rfl
 |ref a=>cases (show u=Value.ref a from r);rfl
 |ty n=>cases (show u=Value.type n from r);rfl
section
variable{P:Program}{w:World}{H:Hp}{h:Heap}{a C dx:Addr}{fs:List (Str×V)}
theorem wK(hok:HOk P w H h)(e:H a=some (.ins C dx fs)):∃ mA,By h a dx C mA/\(∀ f,kJ (fs.lookup f) (mA f))/\PySem.Within mA (fs.map (·.1))/\fs.length<=1000/\H dx=some (.own a):=by
 obtain⟨d,z,ne,ob,mA,n,r,q⟩:=(show cY P w H h a (.ins C dx fs) from hok a _ e);exact⟨mA,⟨ob,n,ne⟩,r,q,z,d⟩
end
structure Cls(K:PySem.W.Frag)(C:Addr):Prop where
 pg:PySem.W.plainGet K C Str.empty=true
 hd:PySem.W.hasDictIn K C=true
 po:PySem.W.plainOver K C=true
 sa:PySem.W.findIn K (.ref C) "__setattr__"=some (some (.builtin "object.__setattr__"))
theorem Cls.get{K:PySem.W.Frag}{C:Addr}(c:Cls K C)(f:Str):PySem.W.plainGet K C f=true:=c.pg
def eX(K:PySem.W.Frag)(C:Addr)(f:Str):Prop:=PySem.W.findIn K (.ref C) f=some none
theorem eX.taker{K:PySem.W.Frag}{C:Addr}{f:Str}(n:eX K C f):PySem.W.takerIn K C f=some none:=by
 unfold PySem.W.takerIn;rw[show PySem.W.findIn K (.ref C) f=some none from n];rfl
structure Meth(K:PySem.W.Frag)(C:Addr)(m:Str)(f:Addr):Prop where
 at_:PySem.W.findIn K (.ref C) m=some (some (.ref f))
 fn:isFn K (.ref f)=true
 kp:keepIn K (.ref f)=true
section
variable{X:Cx}{pins:List (Addr×Obj)}{σ:St}{H:Hp}{s:Shared}{a C dx:Addr}{fs:List (Str×V)}{f:Str}{v:V}{A:Around}{E:Value->Shared->Prop}
theorem BJ{b:Bool}{Q:Value->Shared->Prop}(I:Inv X pins σ H s)(e:H a=some (.ins C dx fs))(c:Cls X.K C)(n:eX X.K C f)(l:fs.lookup f=some v)
  (h:∀ u s',Inv X pins σ H s'->RelV v u->Q u s'):wpAny (model X.prog X.w) A (getAttr (.ref a) f b) Q E s:=by
 obtain⟨mA,O,r,_,_,_⟩:=wK I.hok e;obtain⟨u,hu,ru⟩:=kJ.some_of (v:=v) (o:=mA f) (by rw[<-l];exact r f)
 exact Lx I.kIn O (c.get f) c.hd n hu (vB ru) (h u _ (I.tok _) ru)
theorem sO{m:Str}{g:Addr}{pl:Sem Bool}{Q:Value×List Value->Shared->Prop}(I:Inv X pins σ H s)(e:H a=some (.ins C dx fs))(c:Cls X.K C)(k:Meth X.K C m g)(l:fs.lookup m=none)
  (h:Q (.ref g,[.ref a]) s):wpAny (model X.prog X.w) A (getMethod (.ref a) m pl) Q E s:=by
 obtain⟨mA,O,r,_,_,_⟩:=wK I.hok e;have hn:mA m=none:=kJ.none_of (by rw[<-l];exact r m)
 exact Je I.kIn O (c.get m) k.at_ k.fn hn h
theorem BK{y:V}{u:Value}{Q:Unit->Shared->Prop}(I:Inv X pins σ H s)(e:H a=some (.ins C dx fs))(c:Cls X.K C)(n:eX X.K C f)(hl:fs.length<1000)(ry:RelV y u)
  (h:∀ s',Inv X pins σ (upd H a (.ins C dx (kO f y fs))) s'->Q () s'):wpAny (model X.prog X.w) A (setAttr (.ref a) f u) Q E s:=by
 obtain⟨mA,O,r,wi,_,ho⟩:=wK I.hok e;have hz:(fs.map (·.1)).length<=sizeLine:=by rw[Zam,sizeLine_eq];omega
 refine Ly I.kIn O c.sa c.po n.taker c.hd wi hz λh' O' sb=>h _ ?_;have hd:∃ o,h'.get? dx=some o:=let⟨o,_,_,e',_⟩:=O'.ns;⟨o,e'⟩;refine I.write (x:=a) (e:=dx) (by rw[e];exact True.intro) (.inr ho) (λb q hb z=>(sb.2 b hb).trans z) hd ?_
 refine⟨by rw[aM O.ne];exact ho,?_,O.ne,O'.obj,_,O'.ns,λg=>?_,λg hg=>?_⟩
 ·have:=qF f y fs;omega
 ·show kJ ((kO f y fs).lookup g) (if g=f then some u else mA g)
  rw[qD];by_cases q:g=f
  ·rw[Zae q,Zae q];exact ry
  ·rw[Zaf q,Zaf q];exact r g
 ·by_cases q:g=f
  ·rw[q];exact(pR f y fs).1
  ·refine(pR f y fs).2 g (wi g λz=>hg ?_);show(if g=f then some u else mA g)=none
   rw[Zaf q];exact z
theorem Inv.made(I:Inv X pins σ H s):Inv X pins σ (upd (upd H s.heap.objs.size (.own (s.heap.objs.size+1))) (s.heap.objs.size+1) (.ins C s.heap.objs.size []))
  { s with heap:=(s.heap.push emptyDict).push (instObj C s.heap.objs.size) }:=by
 have e1:(s.heap.push emptyDict).get? s.heap.objs.size=some emptyDict:=Zas s.heap rfl;have e2:((s.heap.push emptyDict).push (instObj C s.heap.objs.size)).get? (s.heap.objs.size+1)=some (instObj C s.heap.objs.size):=by
  have:=Zas (s.heap.push emptyDict) (o:=instObj C s.heap.objs.size) rfl
  rwa [Zbr] at this
 have e3:(s.heap.push emptyDict).Ns s.heap.objs.size (λ_=>none):=⟨emptyDict,#[],_,e1,rfl,(λe he=>absurd he (by simp)),λ_=>rfl⟩
 have I1:=I.laid (a:=s.heap.objs.size) (o:=.own (s.heap.objs.size+1)) (h':=s.heap.push emptyDict) (t':=s.toks) (λb u q=>Zad _ q) (Zak _) ⟨_,e1⟩;refine I1.laid (a:=s.heap.objs.size+1) (o:=.ins C s.heap.objs.size []) (t':=s.toks) (λb u q=>Zad _ q) (Nat.le_of_eq (Zbr _ _)) ?_;have ne:s.heap.objs.size≠s.heap.objs.size+1:=ZaC (ZbR _);refine⟨by rw[aM ne,aP],Zbp _,ne,e2,λ_=>none,(Heap.Ns1.of_empty e3).at λo q=>Zad _ q,λ_=>True.intro,λy hy=>absurd rfl hy⟩
theorem DX{prog:Program}{w:World}{env:Env}{e:Expr}{f:Str}{pos:Pos}{s:Shared}{Q:Value->Shared->Prop}(hb:attributeBase e f env (eval e env)=eval e env)
  (h:wpAny (model prog w) A (eval e env) (λo s₁=>wpAny (model prog w) A (getAttr o f true) Q E s₁) E s):wpAny (model prog w) A (eval (.Attribute e f pos) env) Q E s:=
 Attribute_any_ h (by rw[arm_eval_Attribute,hb])
end
def Lz(K:PySem.W.Frag)(ta:TE)(f:Str):TE:=λσ H Q=>ta σ H λx H1=>∃ a C dx fs v,x=.ref a/\H1 a=some (.ins C dx fs)/\Cls K C/\eX K C f/\fs.lookup f=some v/\Q v H1
def Qx(K:PySem.W.Frag)(ta tv:TE)(f:Str):TS:=λD σ H=>tv σ H λy H1=>ta σ H1 λx H2=>∃ a C dx fs,x=.ref a/\H2 a=some (.ins C dx fs)/\Cls K C/\eX K C f/\fs.length<1000 /\
 D.nx σ (upd H2 a (.ins C dx (kO f y fs)))
section
variable{X:Cx}{o e value:Expr}{f:Str}{pos pos':Pos}{ta tv:TE}
theorem Qy(he:PE X e ta)(hb:attributeBase e f X.env (eval e X.env)=eval e X.env):PE X (.Attribute e f pos) (Lz X.K ta f):=by
 intro pins s σ H Q I h;refine DX hb (thn (he pins s σ H _ I h) ?_);rintro u s1 ⟨x,H1,I1,rx,a,C,dx,fs,v,ex,ea,c,n,l,q⟩;subst ex;obtain rfl:u=Value.ref a:=rx;exact BJ I1 ea c n l λu' s2 I2 ru=>⟨v,H1,I2,ru,q⟩
theorem Qz(ha:PE X o ta)(hv:PE X value tv)(hs:swapsWith value (some (.Attribute o f pos')) pos.line X.env=pure false):PS X (.Assign [.Attribute o f pos'] value pos) (Qx X.K ta tv f):=by
 intro pins s σ H D I h;refine plainObj_wpAny_Assign_Attribute (thn (hv pins s σ H _ I h) λu s1 ⟨y,H1,I1,ry,q⟩=>thn (ha pins s1 σ H1 _ I1 q) ?_) hs;rintro ov s2 ⟨x,H2,I2,rx,a,C,dx,fs,ex,ea,c,n,l,q2⟩;subst ex;obtain rfl:ov=Value.ref a:=rx;exact BK I2 ea c n l ry λs3 I3=>⟨σ,_,I3,q2⟩
end
structure cB(k:Nat)(A:Around):Prop where
 hd:A.handled=none
 dp:A.depth+3*k+5<recursionLimit
 un:A.units+16*k+200<cLine
theorem cB.mono{j k:Nat}{A:Around}(r:cB k A)(h:j<=k):cB j A:=⟨r.hd,by have:=r.dp;lia,by have:=r.un;lia⟩
theorem cB.deeper{k:Nat}{A:Around}(r:cB (k+1) A)(env:Env):cB k (A.deeper env):=
 ⟨r.hd,by have:=r.dp;show A.depth+1+3*k+5<_;lia,by have:=r.un;show A.units+3+16*k+200<_;lia⟩
theorem BL{A:Around}{C:Addr}{us:List Value}{kw:List (Str×Value)}:(A.under (.builtin "type.__call__" ⟨.ref C::us,kw⟩)).depth=A.depth+1:=by
 first|rfl|simp[Around.under,Code.weight,Code.isCreation,Code.isGuard,Code.isCaller,Code.frames,Code.isFrame,guardIds]
theorem BP{A:Around}{C:Addr}{us:List Value}{kw:List (Str×Value)}:(A.under (.builtin "type.__call__" ⟨.ref C::us,kw⟩)).units=A.units+1:=by
 first|rfl|simp[Around.under,Code.cUnits,Code.frames,Code.isFrame]
theorem cB.make{k:Nat}{A:Around}(r:cB (k+1) A)(C:Addr)(us:List Value)(kw:List (Str×Value)):cB k (A.under (.builtin "type.__call__" ⟨.ref C::us,kw⟩)):=
 ⟨r.hd,by have:=r.dp;rw[BL];omega,by have:=r.un;rw[BP];omega⟩
theorem cB.depth{k:Nat}{A:Around}(r:cB k A):A.depth<recursionLimit:=by have:=r.dp;omega
theorem cB.units{k:Nat}{A:Around}(r:cB k A):A.units+64<cLine:=by have:=r.un;omega
def oJ:TA:=λ_ H Q=>Q [] H
def eY(ta:TE)(tr:TA):TA:=λσ H Q=>ta σ H λx H1=>tr σ H1 λxs H2=>Q (x::xs) H2
section
variable{X:Cx}{e:Expr}{es:List Expr}{te:TE}{t:TA}{pos:Pos}
theorem az:PA X [] oJ:=λ_ _ _ _ H Q I h=>Calls.spliced_nil ⟨[],H,I,.nil,h⟩
theorem aj(ha:PE X e te)(hr:PA X es t)(hs:starEach (e::es) X.env=(false,eval e X.env)::starEach es X.env:=by rfl):PA X (e::es) (eY te t):=by
 intro pos pins s σ H Q I h;rw[hs];show wpAny _ _ (spliced ((false,eval e X.env)::backTo pos (starEach es X.env))) _ _ s
 refine Calls.spliced_cons (thn (ha pins s σ H _ I h) ?_);rintro u s1 ⟨x,H1,I1,r1,q1⟩;exact thn (hr pos pins s1 σ H1 _ I1 q1) λus s2 ⟨xs,H2,I2,r2,q2⟩=>⟨x::xs,H2,I2,.cons r1 r2,q2⟩
def LC(t:TA):TE:=λσ H Q=>t σ H λxs H1=>xs.length<=sizeLine/\∀ p,H1 p=none->Q (.ref p) (upd H1 p (.tup xs))
def Ss(t:TA):TE:=λσ H Q=>t σ H λxs H1=>xs.length<=sizeLine/\∀ p,H1 p=none->Q (.ref p) (upd H1 p (.lst xs))
theorem dz{x1}(h:PA X es t):PE X (.Tuple es x1 pos) (LC t):=by
 intro pins s σ H Q I hq;refine wpAny_Tuple_spliced (thn (h pos pins s σ H _ I hq) λus s1 ⟨xs,H1,I1,r,z,q⟩=>⟨by rw[<-r.length];exact z,?_⟩)
 have hf:H1 s1.heap.objs.size=none:=I1.hok.fresh (Zak _);refine⟨.ref s1.heap.objs.size,upd H1 s1.heap.objs.size (.tup xs),I1.laid (t':=s1.toks) (λb u e=>Zad _ e) (Zak _) ?_,rfl,q _ hf⟩;exact⟨z,us,r,eV.mk (Zas _ rfl)⟩
theorem dB(h:PA X es t):PE X (.List es pos) (Ss t):=by
 intro pins s σ H Q I hq;refine wpAny_List_spliced (thn (h pos pins s σ H _ I hq) λus s1 ⟨xs,H1,I1,r,z,q⟩=>⟨by rw[<-r.length];exact z,?_⟩)
 have hf:H1 s1.heap.objs.size=none:=I1.hok.fresh (Zak _);refine⟨.ref s1.heap.objs.size,upd H1 s1.heap.objs.size (.lst xs),I1.laid (t':=s1.toks) (λb u e=>Zad _ e) (Zak _) ?_,rfl,q _ hf⟩;exact⟨z,us,0,r,Zas _ rfl⟩
end
noncomputable abbrev Sp:=List V->Hp->VK->XK->Prop
noncomputable abbrev CXT:=List Env->Hp->Shared->XK->Value->Shared->Prop
structure BR(P:Program)(w:World)(K:PySem.W.Frag)(mg:Str->Option Value)(base:Heap)(A:Around)(outer:List Env)(s:Shared)(H:Hp):Prop where
 frames:A.frames=some outer
 mod:Mod K mg base
 bs:∀ b o,base.get? b=some o->s.heap.get? b=some o/\H b=none
 bsz:base.objs.size<=s.heap.objs.size
 nZ:s.heap.FunFrames base outer
 frf:∀ b∈frs outer,H b=none
 hok:HOk P w H s.heap
 bare:AllBare s.gens
def CE(outer:List Env)(P:Program)(w:World)(H:Hp)(s:Shared)(Q:VK)(u:Value)(s':Shared):Prop:=
 ∃ v H',s'.os=s.os/\AllBare s'.gens/\Un (frs outer) [] H H' s.heap s'.heap/\HOk P w H' s'.heap/\RelV v u/\Q v H'
def CR(CX:CXT)(outer:List Env)(P:Program)(w:World)(H:Hp)(s:Shared)(Q:VK)(E:XK)(r:Result)(s':Shared):Prop:=
 match r with
 |.ok (.ret u)=>CE outer P w H s Q u s'
 |.ok _=>False
 |.error e=>CX outer H s E e s'
structure jg(P:Program)(w:World)(K:PySem.W.Frag)(mg:Str->Option Value)(base:Heap)(CX:CXT)(k:Nat)(f:Addr)(fd:FuncData)(ps:List Str)(sp:Sp):Prop where
 len:∀ vs H Q E,sp vs H Q E->vs.length=ps.length
 run:∀ (A:Around) (outer:List Env) (s:Shared) (H:Hp) (args:Args) (us:List Value) (vs:List V) (Q:VK) (E:XK),cB k A->BR P w K mg base A outer s H->BindsTo s fd args (ps.zip us)->Vals vs us->sp vs H Q E ->
  codeAny (model P w) A (.call (.ref f) args) (CR CX outer P w H s Q E) s
theorem BR.make{P:Program}{w:World}{K:PySem.W.Frag}{mg:Str->Option Value}{base:Heap}{A:Around}{outer:List Env}{s:Shared}{H:Hp}(e:BR P w K mg base A outer s H)(C:Addr)(us:List Value)(kw:List (Str×Value)) :
  BR P w K mg base (A.under (.builtin "type.__call__" ⟨.ref C::us,kw⟩)) outer s H:=⟨by first|exact e.frames|(simpa[Around.under,Code.envs,Code.isFrame,pushEnvs] using e.frames),e.mod,e.bs,e.bsz,e.nZ,e.frf,e.hok,e.bare⟩
section
variable{X:Cx}{pins:List (Addr×Obj)}{σ:St}{H:Hp}{s s':Shared}
theorem Inv.env0(I:Inv X pins σ H s):BR X.prog X.w X.K X.mg X.base X.A X.stack s H:=
 ⟨I.ok.frames,I.ok.mod,I.bs,Zau I.ok.bsz I.sz,I.stack,I.wC,I.hok,I.bare⟩
theorem Inv.after{Q:VK}{u:Value}(I:Inv X pins σ H s)(h:CE X.stack X.prog X.w H s Q u s'):EP X pins σ Q u s':=by
 obtain⟨v,H',os,bare,un,hok,r,q⟩:=h;obtain⟨hh,g,d,t,os'⟩:=s';obtain rfl:os'=s.os:=os;exact⟨v,H',I.call (h':=hh) (g':=g) (d':=d) (t':=t) (ch:=[]) un hok bare (λb z=>absurd z (by simp)),r,q⟩
end
def nu(sp:Sp)(dvs:List V)(E:XK)(t:TA):TE:=λσ H Q=>t σ H λvs H1=>sp (vs++dvs) H1 Q E
def qG(C:Addr)(m:Str)(sp:Sp)(dvs:List V)(E:XK)(ta:TE)(t:TA):TE:=λσ H Q=>ta σ H λx H1=>∃ a dx fs,x=.ref a/\H1 a=some (.ins C dx fs)/\fs.lookup m=none /\
 t σ H1 λvs H2=>sp (x::(vs++dvs)) H2 Q E
def Jg(C:Addr)(sp:Sp)(dvs:List V)(E:XK)(t:TA):TE:=λσ H Q=>t σ H λvs H1=>∀ x dx,H1 x=none->H1 dx=none->dx≠x ->
 sp (.ref x::(vs++dvs)) (upd (upd H1 dx (.own x)) x (.ins C dx [])) (λv H2=>v=.non/\Q (.ref x) H2) E
def Binds(K:PySem.W.Frag)(fd:FuncData)(ps:List Str)(ds:List Value):Prop:=
 ∀ (s:Shared) (us:List Value),K.In s.heap->(us++ds).length=ps.length->BindsTo s fd ⟨us,[]⟩ (ps.zip (us++ds))
theorem Binds.all{K:PySem.W.Frag}{fd:FuncData}{ps:List Str}(h:∀ us:List Value,us.length=ps.length->bindArgs fd ⟨us,[]⟩=pure (ps.zip us)):Binds K fd ps []:=λs us _ hl=>by
 rw[Zaz] at hl ⊢;exact .of_eq (h us hl)
def gQ(CX:CXT)(X:Cx)(E:XK):Prop:=∀ (pins:List (Addr×Obj)) (σ:St) (H:Hp) (s:Shared) (e:Value) (s':Shared),Inv X pins σ H s->CX X.stack H s E e s'->X.xe e s'
section
variable{X:Cx}{CX:CXT}{k:Nat}{f C:Addr}{fd:FuncData}{ps:List Str}{sp:Sp}{dvs:List V}{ds:List Value}{E:XK}{x m:Str}{p pos apos:Pos}{e o:Expr}{es:List Expr}{ta:TE}{t:TA}
theorem Jh{pins:List (Addr×Obj)}{σ:St}{H:Hp}{s:Shared}{Q:VK}{us:List Value}{vs:List V}(F:jg X.prog X.w X.K X.mg X.base CX k f fd ps sp)(hr:cB k X.A)(hb:Binds X.K fd ps ds)(hd:Vals dvs ds)(hx:gQ CX X E)
  (I:Inv X pins σ H s)(r:Vals vs us)(h:sp (vs++dvs) H Q E):wpAny (model X.prog X.w) X.A (call (.ref f) us) (EP X pins σ Q) X.xe s:=by
 have r2:Vals (vs++dvs) (us++ds):=r.append hd;have hl:(us++ds).length=ps.length:=by rw[<-r2.length];exact F.len _ _ _ _ h
 refine wpAny_call (codeAny_mono (F.run X.A X.stack s H ⟨us,[]⟩ (us++ds) (vs++dvs) Q E hr I.env0 (hb s us I.kIn hl) r2 h) λr s' hq=>?_);cases r with
 |error e=>exact hx pins σ H s e s' I hq
 |ok fl=>
  cases fl with
  |ret u=>exact I.after hq
  |next=>exact False.elim hq
  |brk=>exact False.elim hq
  |cont=>exact False.elim hq
theorem DY(F:jg X.prog X.w X.K X.mg X.base CX k f fd ps sp)(hr:cB k X.A)(hg:Gl X x)(hm:X.mg x=some (.ref f))(hk:keepIn X.K (.ref f)=true)(hb:Binds X.K fd ps ds)(hd:Vals dvs ds)(hx:gQ CX X E)
  (ha:PA X (e::es) t)(hdb:(x==("__debug__":Str))=false:=by decide)(he:starEach (e::es) X.env=(false,eval e X.env)::starEach es X.env:=by rfl)(hpl:(backTo pos (starEach es X.env)).any (·.1)=false:=by rfl) :
  PE X (.Call (.Name x p) (e::es) [] pos) (nu sp dvs E t):=by
 intro pins s σ H Q I h;refine wpAny_Call_Name_kw (oG I hg hm ?_ hdb);refine Zbk (h₀:=X.base) I.ok.mod.kin hk (thn (ha pos pins s σ H _ I h) λus s1 ⟨vs,H1,I1,r,q⟩=>⟨I1.kIn,?_⟩) he hpl;exact Jh F hr hb hd hx I1 r q
theorem LK{pl:Sem Bool}(he:PE X o ta)(c:Cls X.K C)(hm:Meth X.K C m f)(F:jg X.prog X.w X.K X.mg X.base CX k f fd ps sp)(hr:cB k X.A)(hb:Binds X.K fd ps ds)(hd:Vals dvs ds)(hx:gQ CX X E)(ha:PA X (e::es) t)
  (hst:starEach (e::es) X.env=(false,eval e X.env)::starEach es X.env:=by rfl)(hpl:(backTo pos (starEach es X.env)).any (·.1)=false:=by rfl)
  (ht:eval (.Call (.Attribute o m apos) (e::es) [] pos) X.env=(do
   let ov <-eval o X.env
   standAt apos.atName
   let(f,first) <-holding [ov] (getMethod ov m pl)
   callWith pos f first (backTo pos (starEach (e::es) X.env)) (backToKw pos (keywordEach [] X.env))):=by rfl) :
  PE X (.Call (.Attribute o m apos) (e::es) [] pos) (qG C m sp dvs E ta t):=by
 intro pins s σ H Q I h;refine PySem.W.methodCall_KW (pl:=pl) (thn (he pins s σ H _ I h) ?_) ht;rintro u s1 ⟨x,H1,I1,rx,a,dx,fs,ex,ea,l,q⟩;subst ex;obtain rfl:u=Value.ref a:=rx;refine sO I1 ea c hm l ?_;refine Zbk (first:=[.ref a]) (h₀:=X.base) I.ok.mod.kin hm.kp (thn (ha pos pins s1 σ H1 _ I1 q) λus s2 ⟨vs,H2,I2,r,q2⟩=>⟨I2.kIn,?_⟩) hst hpl;exact Jh (us:=.ref a::us) (vs:=.ref a::vs) F hr hb hd hx I2 (.cons rfl r) q2
structure Mk(K:PySem.W.Frag)(C f:Addr):Prop where
 makes:PySem.W.makesIn K C=true
 init:PySem.W.findIn K (.ref C) "__init__"=some (some (.ref f))
 fn:isFn K (.ref f)=true
 kp:keepIn K (.ref C)=true
theorem Ji{pins:List (Addr×Obj)}{σ:St}{H:Hp}{s:Shared}{Q:VK}{us:List Value}{vs:List V}(M:Mk X.K C f)(F:jg X.prog X.w X.K X.mg X.base CX k f fd ps sp)(hr:cB (k+1) X.A)(hb:Binds X.K fd ps ds)(hd:Vals dvs ds)
  (hx:gQ CX X E)(I:Inv X pins σ H s)(r:Vals vs us)
  (h:∀ x dx,H x=none->H dx=none->dx≠x->sp (.ref x::(vs++dvs)) (upd (upd H dx (.own x)) x (.ins C dx [])) (λv H2=>v=.non/\Q (.ref x) H2) E) :
  wpAny (model X.prog X.w) X.A (call (.ref C) us) (EP X pins σ Q) X.xe s:=by
 have hq:=h (s.heap.objs.size+1) s.heap.objs.size (I.hok.fresh (ZbQ _)) (I.hok.fresh (Zak _)) (ZaC (ZbR _));have I2:=Inv.made (C:=C) I;have r2:Vals (V.ref (s.heap.objs.size+1)::(vs++dvs)) (Value.ref (s.heap.objs.size+1)::(us++ds)):=.cons rfl (r.append hd);have hl:(Value.ref (s.heap.objs.size+1)::us++ds).length=ps.length:=by
  have e:=r2.length;rw[F.len _ _ _ _ hq] at e;exact e.symm
 refine wpAny_call (Jf (f:=f) I.kIn M.makes M.init (beq_iff_eq.mp M.fn) (codeAny_mono (F.run _ X.stack _ _ ⟨Value.ref (s.heap.objs.size+1)::us,[]⟩ (Value.ref (s.heap.objs.size+1)::(us++ds)) _ _ E (hr.make C us [])
  (I2.env0.make C us []) (hb _ (Value.ref (s.heap.objs.size+1)::us) I2.kIn hl) r2 hq) λr s' hq'=>?_))
 cases r with
 |error e=>exact hx pins σ _ _ e s' I2 hq'
 |ok fl=>
  cases fl with
  |ret u=>
   obtain⟨v,H',I3,rv,ev,q3⟩:=I2.after hq';subst ev;exact⟨rv,⟨V.ref (s.heap.objs.size+1),H',I3,rfl,q3⟩⟩
  |next=>exact False.elim hq'
  |brk=>exact False.elim hq'
  |cont=>exact False.elim hq'
theorem LQ(M:Mk X.K C f)(F:jg X.prog X.w X.K X.mg X.base CX k f fd ps sp)(hr:cB (k+1) X.A)(hg:Gl X x)(hm:X.mg x=some (.ref C))(hb:Binds X.K fd ps ds)(hd:Vals dvs ds)(hx:gQ CX X E)
  (ha:PA X (e::es) t)(hdb:(x==("__debug__":Str))=false:=by decide)(he:starEach (e::es) X.env=(false,eval e X.env)::starEach es X.env:=by rfl)(hpl:(backTo pos (starEach es X.env)).any (·.1)=false:=by rfl) :
  PE X (.Call (.Name x p) (e::es) [] pos) (Jg C sp dvs E t):=by
 intro pins s σ H Q I h;refine wpAny_Call_Name_kw (oG I hg hm ?_ hdb);refine Zbk (h₀:=X.base) I.ok.mod.kin M.kp (thn (ha pos pins s σ H _ I h) λus s1 ⟨vs,H1,I1,r,q⟩=>⟨I1.kIn,?_⟩) he hpl;exact Ji M F hr hb hd hx I1 r q
end
structure bf(N P:List Str)(sc:Scope):Prop where
 kind:sc.kind=.function
 co:sc.isCoroutine=false
 gen:sc.isGenerator=false
 nd:N.Nodup
 pre:N.take P.length=P
 par:∀ x∈P,sc.names.lookup x=some .local\/sc.names.lookup x=some .cell
 nofree:∀ y∈sc.names,y.2≠.free
theorem vC{kindOf:Str->Option NameKind}{x:Str}:∀ {binds:List (Str×Value)}{m:Str->Option Value},(∀ v,(x,v) ∉ binds)->bindL kindOf binds m x=m x
 |[],_,_=>rfl
 |(n,v)::r,m,h=>by
  unfold bindL;rw[vC λw hw=>h w (Zat _ hw)];split
  ·have:x≠n:=by rintro rfl;exact h v ZaO
   simp[this]
  ·rfl
theorem vD{kindOf:Str->Option NameKind}{x:Str}:∀ {binds:List (Str×Value)}{m:Str->Option Value},(∀ v,(x,v) ∉ binds)->bindC kindOf binds m x=m x
 |[],_,_=>rfl
 |(n,v)::r,m,h=>by
  unfold bindC;rw[vD λw hw=>h w (Zat _ hw)];split
  ·rfl
  ·have:x≠n:=by rintro rfl;exact h v ZaO
   simp[this]
theorem vG{kindOf:Str->Option NameKind}{x:Str}{v:Value}:∀ {P:List Str}{vs:List Value}{i:Nat}{m:Str->Option Value},P.Nodup->P[i]?=some x->vs[i]?=some v->kindOf x=some .local ->
  bindL kindOf (P.zip vs) m x=some v
 |[],_,_,_,_,h,_,_=>by simp at h
 |_::_,[],_,_,_,_,h,_=>by simp at h
 |p::P,w::vs,0,m,nd,h1,h2,hk=>by
  simp at h1 h2;subst h1;subst h2;show bindL kindOf ((p,w)::P.zip vs) m p=_
  unfold bindL;rw[vC λv hv=>(ZbB.mp nd).1 (ZbW hv).1,Zae hk];simp
 |p::P,w::vs,i+1,m,nd,h1,h2,hk=>by
  show bindL kindOf ((p,w)::P.zip vs) m x=_
  unfold bindL;exact vG (i:=i) (ZbB.mp nd).2 (by simpa using h1) (by simpa using h2) hk
theorem vH{kindOf:Str->Option NameKind}{x:Str}{v:Value}:∀ {P:List Str}{vs:List Value}{i:Nat}{m:Str->Option Value},P.Nodup->P[i]?=some x->vs[i]?=some v->kindOf x≠some .local ->
  bindC kindOf (P.zip vs) m x=some v
 |[],_,_,_,_,h,_,_=>by simp at h
 |_::_,[],_,_,_,_,h,_=>by simp at h
 |p::P,w::vs,0,m,nd,h1,h2,hk=>by
  simp at h1 h2;subst h1;subst h2;show bindC kindOf ((p,w)::P.zip vs) m p=_
  unfold bindC;rw[vD λv hv=>(ZbB.mp nd).1 (ZbW hv).1,Zaf hk];simp
 |p::P,w::vs,i+1,m,nd,h1,h2,hk=>by
  show bindC kindOf ((p,w)::P.zip vs) m x=_
  unfold bindC;exact vH (i:=i) (ZbB.mp nd).2 (by simpa using h1) (by simpa using h2) hk
def start(N:List Str)(vs:List V):St:=vs.map some++List.replicate (N.length-vs.length) none
def qZ(CX:CXT)(P:Program)(w:World)(K:PySem.W.Frag)(mg:Str->Option Value)(base:Heap)(N:List Str)(qual:Str)(scope:Scope)(f:Addr)(cd:Value)(A:Around)(outer:List Env)(s:Shared)(H:Hp)(E:XK):Cx where
 prog:=P
 w:=w
 K:=K
 mg:=mg
 base:=base
 A:=A.deeper (envOfC qual scope s.heap.objs.size f cd)
 N:=N
 s₀:=s
 H₀:=H
 env:=envOfC qual scope s.heap.objs.size f cd
 outer:=outer
 stack:=envOfC qual scope s.heap.objs.size f cd::outer
 ex:=[]
 calm:=true
 fn:=λ_=>true
 pn:=[]
 xe:=λe s'=>wpAny (model P w) (A.deeper (envOfC qual scope s.heap.objs.size f cd)) (leaving (envOfC qual scope s.heap.objs.size f cd) e) (λ_ s''=>CX outer H s E e s'') (λe' s''=>CX outer H s E e' s'') s'
theorem yR{sc:Scope}{n:Nat}{x:Str}(h:sc.names.lookup x=some .cell):∃ c,(cellsFrom n sc.names []).lookup x=some c:=by
 have q:=PySem.W.cellsFrom_some sc.names n [] (.inl h);exact Option.isSome_iff_exists.mp q
theorem Gz{CX:CXT}{P:Program}{w:World}{K:PySem.W.Frag}{mg:Str->Option Value}{base:Heap}{N ps:List Str}{qual:Str}{scope:Scope}{f:Addr}{cd:Value}{A:Around}{outer:List Env}{s s1:Shared}{H:Hp}{E:XK}{us:List Value}{vs:List V}
  (S:bf N ps scope)(hd:A.handled=none)(e0:BR P w K mg base A outer s H)(hl:vs.length=ps.length)(r:Vals vs us)
  (x:InCallC s s.heap.objs.size (bindL (envOfC qual scope s.heap.objs.size f cd).kindOf (ps.zip us) λ_=>none) (cellsFrom (s.heap.objs.size+1) scope.names []) (bindC (envOfC qual scope s.heap.objs.size f cd).kindOf (ps.zip us) λ_=>none) s1) :
  Inv (qZ CX P w K mg base N qual scope f cd A outer s H E) [] (start N vs) H s1:=by
 have hpl:ps.length<=N.length:=by have:=Zbi List.length S.pre;rw[Zbu] at this;lia
 obtain⟨h1,tk,rfl,hk⟩:=x.done;have noA:∀ b:Addr,b ∉ (qZ CX P w K mg base N qual scope f cd A outer s H E).ex:=λb z=>absurd (show b∈([]:List Addr) from z) (by simp)
 refine⟨⟨e0.mod,S.kind,rfl,rfl,Zak _,λy z c h1 h2=>?_,λy hy=>?_,λy c _ h=>?_,λ_=>hd,Around.frames_deeper e0.frames,.inr ⟨rfl,rfl⟩,λb z=>absurd z (noA b),e0.bs,e0.bsz,λb _ _=>noA b,λb z=>absurd z (noA b),e0.nZ,e0.frf⟩,
  rfl,e0.bare,Un.kept hk,⟨_,x.toInCall.ns,λi y v h1 h2 h3=>?_⟩,λy c h=>⟨_,x.cell y c h⟩,e0.hok.fresh (Zak _),λy c h=>?_,λp hp=>absurd (show p∈([]:List (Addr×Obj)) from hp) (by simp),e0.hok.kept hk,?_⟩
 ·exact name_of_addr x.apart (Za7 h1) (Za7 h2)
 ·have hy:scope.names.lookup y=some .cell\/scope.names.lookup y=some .free:=hy;rcases hy with hy|hy
  ·exact yR hy
  ·exact absurd rfl (S.nofree _ (Za7 hy))
 ·exact ZaQ (x.above y c (Za7 h))
 ·have hi:i<vs.length:=by
   unfold start at h2;by_cases hi:i<vs.length
   ·exact hi
   ·rw[Zap (by simpa using hi)] at h2
    rw[ZaK] at h2;split at h2<;>cases h2
  have ha:vs[i]?=some v:=by
   unfold start at h2;rw[Zan (by simpa using hi),Zai] at h2
   cases e:vs[i]? with
   |none=>rw[e] at h2;cases h2
   |some a=>rw[e] at h2;cases h2;rfl
  obtain⟨u,hu,rv⟩:=r.get ha;have hp:ps[i]?=some y:=by
   rw[<-S.pre,List.getElem?_take_of_lt (by lia)];exact h1
  have ndP:ps.Nodup:=by rw[<-S.pre];exact S.nd.sublist (List.take_sublist _ _)
  refine⟨u,rv,?_⟩;rcases S.par y (Zao hp) with k|k
  ·exact .inl ⟨k,vG ndP hp hu k⟩
  ·obtain⟨c,e⟩:=yR (n:=s.heap.objs.size+1) k;refine .inr ⟨.inl k,c,e,?_⟩;have q:=x.cell y c e;rw[vH ndP hp hu (by show scope.names.lookup y≠_;rw[k];decide)] at q
   exact q
 ·exact e0.hok.fresh (ZaQ (x.above y c (Za7 h)))
 ·unfold start;show _=N.length
  rw[Zaw,Zam,Za1];lia
theorem Jj{CX:CXT}{P:Program}{w:World}{K:PySem.W.Frag}{mg:Str->Option Value}{base:Heap}{k:Nat}{f:Addr}{name qual:Str}{params:Arguments}{body:List Stmt}{scope:Scope}{dV kV doc pm cdv ct oc:Value}{an od:Option Addr}
  {osl:Array (Option Value)}{N ps:List Str}{sp:Sp}(lk:K.lookup f=some ⟨oc,od,.func (fnOf name qual params body scope dV kV doc pm an cdv ct),osl⟩)(hcd:codeIn K cdv qual=true)(S:bf N ps scope)
  (len:∀ vs H Q E,sp vs H Q E->vs.length=ps.length)
  (hbody:∀ (A:Around) (outer:List Env) (s:Shared) (H:Hp) (vs:List V) (Q:VK) (E:XK),cB k (A.deeper (envOfC qual scope s.heap.objs.size f cdv))->sp vs H Q E ->
   ∃ t,PSs (qZ CX P w K mg base N qual scope f cdv A outer s H E) body t/\t { nx:=λ_ H'=>Q .non H',rt:=Q } (start N vs) H) :
  jg P w K mg base CX (k+1) f (fnOf name qual params body scope dV kV doc pm an cdv ct) ps sp:=by
 refine⟨len,λA outer s H args us vs Q E hr e0 hb r hsp=>?_⟩;have hl:=len _ _ _ _ hsp;have KX:K.In s.heap:=e0.mod.kin.keeps λb o e=>(e0.bs b o e).1;have lim:s.heap.NoLimit:=e0.mod.nolimit.keeps λb o e=>(e0.bs b o e).1;have hkind:∀ y∈ps.zip us,scope.names.lookup y.1=some .local\/(scope.names.lookup y.1=some .cell/\((cellsFrom (s.heap.objs.size+1) scope.names []).lookup y.1).isSome=true):=λ⟨n,v⟩ hy=>by
  rcases S.par n (ZbW hy).1 with q|q
  ·exact .inl q
  ·exact .inr ⟨q,PySem.W.cellsFrom_some _ _ _ (.inl q)⟩
 refine codeAny_call_function hr.depth (KX _ _ lk) rfl S.co S.gen rfl (PySem.W.codeRec_of KX hcd) (hb _ _ _ _ ?_);refine wpAny_newFunctionEnv_cells S.kind hkind λenv he s1 x=>?_;subst he;refine⟨lim.keeps x.toInCall.keep,codeAny_func ?_⟩;obtain⟨t,ht,hq⟩:=hbody A outer s H vs Q E (hr.deeper _) hsp;have I:Inv (qZ CX P w K mg base N qual scope f cdv A outer s H E) [] (start N vs) H s1:=Gz S hr.hd e0 hl r x;refine ZaG (ht [] s1 (start N vs) H _ I hq) (λfl s' hs=>?_) λe s' hs=>hs;have fin:∀ {σ':St}{H':Hp}{v:V}{u:Value},Inv (qZ CX P w K mg base N qual scope f cdv A outer s H E) [] σ' H' s'->RelV v u->Q v H'->CE outer P w H s Q u s':=
  λ{σ' H' v u} J rv q=>⟨v,H',J.os,J.bare,J.base,J.hok,rv,q⟩
 cases fl with
 |ret u=>
  obtain⟨v,σ',H',J,rv,q⟩:=hs;exact fin J rv q
 |next=>
  obtain⟨σ',H',J,q⟩:=hs;exact fin (v:=V.non) (u:=Value.none) J rfl q
 |brk=>
  obtain⟨_,_,_,q⟩:=hs;exact False.elim q
 |cont=>
  obtain⟨_,_,_,q⟩:=hs;exact False.elim q
section
variable{X:Cx}{x:Str}{p pos:Pos}{e:Expr}{es:List Expr}{t:TA}{id T:String}{r:List V->Hp->VK->Prop}
def tCB(r:List V->Hp->VK->Prop)(t:TA):TE:=λσ H Q=>t σ H λvs H1=>r vs H1 Q
theorem bO(hc:lq X (.builtin id) r)(hg:Gl X x)(hm:X.mg x=none)(hv:bootBuiltins x=some (.builtin id))(ha:PA X (e::es) t)(hn:x≠"__name__":=by decide)(hdb:(x==("__debug__":Str))=false:=by decide)
  (he:starEach (e::es) X.env=(false,eval e X.env)::starEach es X.env:=by rfl)(hpl:(backTo pos (starEach es X.env)).any (·.1)=false:=by rfl):PE X (.Call (.Name x p) (e::es) [] pos) (tCB r t):=by
 intro pins s σ H Q I h;refine wpAny_Call_Name_kw (sE I hg hm hv ?_ hn hdb);exact PyProof.Rows.callWith_builtin1 (thn (ha pos pins s σ H _ I h) λus s1 ⟨vs,H1,I1,r1,q1⟩=>hc pins s1 σ H1 vs us Q I1 r1 q1) he hpl
theorem fP(hc:lq X (.type T) r)(hg:Gl X x)(hm:X.mg x=none)(hv:bootBuiltins x=some (.type T))(ha:PA X (e::es) t)(hn:x≠"__name__":=by decide)(hdb:(x==("__debug__":Str))=false:=by decide)
  (he:starEach (e::es) X.env=(false,eval e X.env)::starEach es X.env:=by rfl)(hpl:(backTo pos (starEach es X.env)).any (·.1)=false:=by rfl):PE X (.Call (.Name x p) (e::es) [] pos) (tCB r t):=by
 intro pins s σ H Q I h;refine wpAny_Call_Name_kw (sE I hg hm hv ?_ hn hdb);exact Zba (thn (ha pos pins s σ H _ I h) λus s1 ⟨vs,H1,I1,r1,q1⟩=>hc pins s1 σ H1 vs us Q I1 r1 q1) he hpl
end
end L2
namespace HT
open PySem PyProof.Rows
section
variable{prog:Program}{w:World}{A:Around}{E:Value->Shared->Prop}{s:Shared}
theorem LR{t b:Addr}{vs ws:List Value}{Q:Value->Shared->Prop}(ht:IsTup s.heap t vs.toArray)(hb:IsTup s.heap b ws.toArray)(hv:vs≠[])
  (h1:ws=[]->Q (.ref t) s)(h2:ws≠[]->Q (.ref s.heap.objs.size) { s with heap:=s.heap.push { cls:=.type "tuple",data:=.seq (vs++ws).toArray } })
  (hsz:vs.length+ws.length<=sizeLine):wpAny (model prog w) A (binaryOp .Add (.ref t) (.ref b)) Q E s:=by
 obtain⟨⟨cls,dd,data,sl⟩,ho,hc,n,hd⟩:=id ht;obtain⟨⟨cls2,dd2,data2,sl2⟩,ho2,hc2,n2,hd2⟩:=id hb;simp only at hc hd hc2 hd2;subst hc hd hc2 hd2;have e:vs.toArray++ws.toArray=(vs++ws).toArray:=by simp
 by_cases hw:ws=[]
 ·exact concat_meets ⟨_,ho,rfl⟩ ⟨_,ho2,rfl⟩ noFill_tuple_add seq_tuple_add PySem.F.slot_tuple_add PySem.F.entry_tuple_add (PySem.F.args_tuple_add_2 _ _)
   (tuple_addW1 t b vs.toArray ws.toArray n n2 dd dd2 sl sl2 (by simpa using hv) (by simp[hw])) ⟨ho,ho2,h1 hw⟩
 ·refine concat_meets ⟨_,ho,rfl⟩ ⟨_,ho2,rfl⟩ noFill_tuple_add seq_tuple_add PySem.F.slot_tuple_add PySem.F.entry_tuple_add (PySem.F.args_tuple_add_2 _ _)
   (tuple_addW2 t b vs.toArray ws.toArray n n2 dd dd2 sl sl2 (by simpa using hv) (by simpa using hw) (by rw[List.size_toArray,List.size_toArray];exact hsz)) ⟨ho,ho2,?_⟩
  rw[e];exact h2 hw
def sIx(n d:Nat):Option Int->Nat
 |none=>d
 |some v=>if v<0 then(v+(n:Int)).toNat else min v.toNat n
theorem QB(n d:Nat)(hd:d<=n)(o:Option Int):sIx n d o<=n:=by
 cases o with
 |none=>exact hd
 |some v=>
  show(if v<0 then(v+(n:Int)).toNat else min v.toNat n)<=n
  by_cases hv:v<0
  ·rw[Zae hv];omega
  ·rw[Zaf hv];exact Nat.min_le_right _ _
theorem Ea(v:Int)(n d:Nat):(if v<0 then max (v+(n:Int)) 0 else min v (n:Int))=((sIx n d (some v):Nat):Int):=by
 show(if v<0 then max (v+(n:Int)) 0 else min v (n:Int))=(((if v<0 then(v+(n:Int)).toNat else min v.toNat n):Nat):Int)
 by_cases hv:v<0
 ·simp only[Zae hv];omega
 ·simp only[Zaf hv];omega
theorem BV(lo hi:Option Int)(n:Nat):Builtin.Slice.sliceAdjust lo hi 1 (n:Int)=(((sIx n 0 lo:Nat):Int),((sIx n n hi:Nat):Int)):=by
 have h1:¬((1:Int)<0):=by omega
 unfold Builtin.Slice.sliceAdjust;simp only[h1,ZaI];refine Prod.ext ?_ ?_
 ·cases lo with
  |none=>rfl
  |some v=>exact Ea v n 0
 ·cases hi with
  |none=>rfl
  |some v=>exact Ea v n n
theorem BW(i j:Nat):Builtin.Slice.slicePlaces (i:Int) (j:Int) 1=j-i:=by
 unfold Builtin.Slice.slicePlaces;have h1:(1:Int)>0:=by omega
 simp only[h1,ZaU,Int.ediv_one];split<;>omega
theorem sS{v:Value}{o:Option Int}{Q:Option Int->Shared->Prop}(p:IsPart v o)(h:Q o s):wpAny (model prog w) A (Builtin.Slice.slicePartIndex v) Q E s:=by
 cases p with
 |none=>exact slicePart_none h
 |int i t=>exact slicePart_int h
theorem pU{sl:Addr}{vl vu:Value}{lo hi:Option Int}{n:Nat}{Q:Int×Int×Nat->Shared->Prop}(hs:s.heap.IsSliceOf sl vl vu .none)(pl:IsPart vl lo)(pu:IsPart vu hi)
  (h:Q (((sIx n 0 lo:Nat):Int),1,sIx n n hi-sIx n 0 lo) s):wpAny (model prog w) A (Builtin.Slice.sliceApplied (.ref sl) (pure (n:Int))) Q E s:=by
 obtain⟨os,hos,hcs,hds⟩:=id hs;unfold Builtin.Slice.sliceApplied Builtin.Slice.sliceFields;refine Zab (Zab (wpAny_field hos hds (x:=vl) rfl (Zab (wpAny_field hos hds (x:=vu) rfl (Zab (wpAny_field hos hds (x:=.none) rfl (Zal ?_)))))));refine Zab (slicePart_none ?_);show wpAny _ _ (if((1:Int)==0)=true then _ else _) _ _ s
 rw[Zaf (by decide)]
 refine Zab (sS pl (Zab (sS pu (Zab (Zal ?_)))));show wpAny _ _ (match Builtin.Slice.sliceAdjust lo hi 1 (n:Int) with|(lo,hi)=>pure (lo,(1:Int),Builtin.Slice.slicePlaces lo hi 1)) _ _ s
 rw[BV lo hi n];show wpAny _ _ (pure (((sIx n 0 lo:Nat):Int),(1:Int),Builtin.Slice.slicePlaces ((sIx n 0 lo:Nat):Int) ((sIx n n hi:Nat):Int) 1)) _ _ s
 rw[BW];exact Zal h
theorem Jk(xs:Array Value)(i k:Nat):((List.range k).filterMap λ(m:Nat)=>xs[((i:Int)+(m:Int)*1).toNat]?).toArray=((xs.toList.drop i).take k).toArray:=by
 have e:(λ(m:Nat)=>xs[((i:Int)+(m:Int)*1).toNat]?)=λm=>xs[i+m]?:=by
  funext m
  have:((i:Int)+(m:Int)*1).toNat=i+m:=by omega
  rw[this]
 rw[e];have:=pick_run xs i k;rw[List.filterMap_map] at this;have e2:((λx=>xs[x]?) ∘ λx=>i+x)=λm=>xs[i+m]?:=rfl;rw[e2] at this;rw[this]
theorem oK{t sl:Addr}{items:Array Value}{vl vu:Value}{lo hi:Option Int}{Q:Value->Shared->Prop}(ht:IsTup s.heap t items)(hs:s.heap.IsSliceOf sl vl vu .none)(pl:IsPart vl lo)(pu:IsPart vu hi)
  (hw:¬(sIx items.size 0 lo=0/\sIx items.size items.size hi=items.size))
  (h:Q (.ref s.heap.objs.size) { s with heap:=s.heap.push { cls:=.type "tuple",data:=.seq ((items.toList.drop (sIx items.size 0 lo)).take (sIx items.size items.size hi-sIx items.size 0 lo)).toArray } })
  (hsz:items.size<=sizeLine):wpAny (model prog w) A (getItem (.ref t) (.ref sl)) Q E s:=by
 have htake:sizeOk (.seq ((items.toList.drop (sIx items.size 0 lo)).take (sIx items.size items.size hi-sIx items.size 0 lo)).toArray):=by
  show((items.toList.drop (sIx items.size 0 lo)).take (sIx items.size items.size hi-sIx items.size 0 lo)).toArray.size<=sizeLine
  rw[List.size_toArray,Zbu,ZbS,Za6];omega
 have hj:sIx items.size items.size hi<=items.size:=QB _ _ (Zak _) hi;obtain⟨os,hos,hcs,hds⟩:=id hs;have hTs:s.TypeIs (.ref sl) "slice":=⟨os,hos,hcs⟩;unfold getItem
 try with_reducible refine wpAny_holding ?_
 first|refine Zab (Zal ?_)|skip
 refine Zab (wpAny_sequenceKey ht.typeIs (by decide) ?_)
 refine Zab (wpAny_callSpecial?_slot (name:=Str.ofString "__getitem__") ht.typeIs Za3
  (wpAny_call_entry Za3 ht.typeIs entry_tuple_getitem ?_ (args_tuple_getitem _ _)))
 show wpAny _ _ (Builtin.Tuple.tupleItemsOf (.ref t)>>=_) _ _ s
 refine Zab (tupleItemsOf_ ht ?_);refine Zab (wpAny_typeOf hTs ?_);rw[Zae (by decide)]
 refine Zab (pU hs pl pu ?_);have hno:¬((((sIx items.size 0 lo:Nat):Int)==0&&(1:Int)==1&&(sIx items.size items.size hi-sIx items.size 0 lo)==items.size)=true):=by
  intro q;rw[ZaZ,ZaZ] at q;have q1:((sIx items.size 0 lo:Nat):Int)=0:=eq_of_beq q.1.1;have q2:sIx items.size items.size hi-sIx items.size 0 lo=items.size:=eq_of_beq q.2;exact hw ⟨by omega,by omega⟩
 show wpAny _ _ (if(((sIx items.size 0 lo:Nat):Int)==0&&(1:Int)==1&&(sIx items.size items.size hi-sIx items.size 0 lo)==items.size)=true then _ else _) _ _ s
 rw[Zaf hno,Jk]
 first
  |exact Zab (m:=Builtin.Tuple.tupleExact _) (wpAny_newObj_type (Zal ⟨_,rfl,Zal h⟩) htake)
  |exact Zab (m:=Builtin.Tuple.tupleExact _) (wpAny_newObj_type (Zab (Zal (Zal ⟨_,rfl,Zal h⟩))) htake)
  |exact Zab (Zab (m:=Builtin.Tuple.tupleExact _) (wpAny_newObj_type (Zal (Zal ⟨_,rfl,Zal h⟩)) htake))
  |exact Zab (Zab (m:=Builtin.Tuple.tupleExact _) (wpAny_newObj_type (Zal ⟨_,rfl,Zal h⟩) htake))
end
end HT
namespace L2
open PySem PySem.Spec PyProof.Rows
noncomputable abbrev TO:=St->Hp->(Option Int->Hp->Prop)->Prop
def PO(X:Cx)(e:Option Expr)(t:TO):Prop:=
 ∀ (pins:List (Addr×Obj)) (s:Shared) (σ:St) (H:Hp) (Q:Option Int->Hp->Prop),Inv X pins σ H s->t σ H Q ->
  wpAny (model X.prog X.w) X.A (evalPart e X.env) (λu s'=>∃ o H',Inv X pins σ H' s'/\IsPart u o/\Q o H') X.xe s
def Eb:TO:=λ_ H Q=>Q none H
def OJ(t:TE):TO:=λσ H Q=>t σ H λx H1=>∃ i,x=.int i/\Q (some i) H1
section
variable{X:Cx}{e:Expr}{te:TE}{lo hi:Option Expr}{tl th:TO}{pos p2:Pos}
theorem mL:PO X none Eb:=by
 intro pins s σ H Q I h;rw[evalPart_none];exact Zal ⟨none,H,I,.none,h⟩
theorem iz(h:PE X e te):PO X (some e) (OJ te):=by
 intro pins s σ H Q I hw;rw[evalPart_some];refine thn (h pins s σ H _ I hw) ?_;rintro u s1 ⟨x,H1,I1,r1,q1⟩;obtain⟨i,rfl,q⟩:=q1;obtain⟨t,rfl⟩:=r1;exact⟨some i,H1,I1,.int i t,q⟩
def SlR(X:Cx)(r:V->Option Int->Option Int->Hp->VK->Prop):Prop:=
 ∀ (pins:List (Addr×Obj)) (s:Shared) (σ:St) (H:Hp) (x:V) (v vl vu:Value) (lo hi:Option Int) (sl:Addr) (Q:VK),Inv X pins σ H s->RelV x v->s.heap.IsSliceOf sl vl vu .none->IsPart vl lo->IsPart vu hi->r x lo hi H Q ->
  ∃ T id,typeLookup (.type T) "__getitem__"=pure (some (.builtin id))/\s.TypeIs v T/\wpAny (model X.prog X.w) X.A (getItem v (.ref sl)) (EP X pins σ Q) X.xe s
def tSl(r:V->Option Int->Option Int->Hp->VK->Prop)(te:TE)(tl th:TO):TE:=λσ H Q=>te σ H λx H1=>tl σ H1 λl H2=>th σ H2 λu H3=>r x l u H3 Q
theorem gR{r:V->Option Int->Option Int->Hp->VK->Prop}(hr:SlR X r)(he:PE X e te)(hl:PO X lo tl)(hu:PO X hi th):PE X (.Subscript e (.Slice lo hi none p2) pos) (tSl r te tl th):=by
 intro pins s σ H Q I h;refine Subscript_ (thn (he pins s σ H _ I h) ?_);rintro v s1 ⟨x,H1,I1,r1,q1⟩;refine wpAny_Slice (thn (hl pins s1 σ H1 _ I1 q1) λvl s2 ⟨l,H2,I2,pl,q2⟩=>thn (hu pins s2 σ H2 _ I2 q2) ?_);rintro vu s3 ⟨u,H3,I3,pu,q3⟩;rw[evalPart_none];refine Zal ?_;have I4:Inv X pins σ H3 { s3 with heap:=s3.heap.push { cls:=.type "slice",data:=.fields #[vl,vu,.none] } }:=I3.kept (t':=s3.toks) λb ob q=>Zad _ q;obtain⟨T,id,hT,ht,hg⟩:=hr pins { s3 with heap:=s3.heap.push { cls:=.type "slice",data:=.fields #[vl,vu,.none] } } σ H3 x v vl vu l u s3.heap.objs.size Q I4 r1 (Heap.IsSliceOf.new ..) pl pu q3;show wpAny (model X.prog X.w) X.A (subscriptTail e (.Slice lo hi none p2) v (.ref s3.heap.objs.size)) (EP X pins σ Q) X.xe { s3 with heap:=s3.heap.push { cls:=.type "slice",data:=.fields #[vl,vu,.none] } }
 exact tail_any (ops:=[.ref s3.heap.objs.size,v]) ht hT hg (by with_unfolding_all rfl)
def wL(xs:List V)(lo hi:Option Int):List V:=(xs.drop (HT.sIx xs.length 0 lo)).take (HT.sIx xs.length xs.length hi-HT.sIx xs.length 0 lo)
theorem qH(xs:List V)(lo hi:Option Int):(wL xs lo hi).length<=xs.length:=by
 unfold wL;rw[Zbu,ZbS];omega
def Su(K:PySem.W.Frag):V->Option Int->Option Int->Hp->VK->Prop:=λx lo hi H Q=>∃ a xs,x=.ref a/\SqT K H a xs /\
 ¬(HT.sIx xs.length 0 lo=0/\HT.sIx xs.length xs.length hi=xs.length)/\∀ p,H p=none->Q (.ref p) (upd H p (.tup (wL xs lo hi)))
theorem wM:SlR X (Su X.K):=by
 intro pins s σ H x v vl vu lo hi sl Q I rx hs pl pu h;obtain⟨a,xs,rfl,hx,hw,q⟩:=h;cases rx;obtain⟨its,r,ht,hz⟩:=I.tuple hx;have hlen:its.toArray.size=xs.length:=by rw[List.size_toArray];exact r.length.symm
 refine⟨"tuple",_,Za3.lookup,ht.typeIs,?_⟩;refine HT.oK ht hs pl pu (by rw[hlen];exact hw) ?_ (by rw[hlen];exact hz)
 rw[hlen];refine⟨.ref s.heap.objs.size,_,I.laid (t':=s.toks) (o:=.tup (wL xs lo hi)) (λb ob q=>Zad _ q) (Zak _) ?_,rfl,q _ (I.hok.fresh (Zak _))⟩;exact⟨Zau (qH xs lo hi) hz,_,(r.drop (HT.sIx xs.length 0 lo)).take (HT.sIx xs.length xs.length hi-HT.sIx xs.length 0 lo),eV.new _ _⟩
def O1(K:PySem.W.Frag):R2:=λx y H Q=>∃ a b xs ys,x=.ref a/\y=.ref b/\SqT K H a xs/\SqT K H b ys/\xs≠[]/\xs.length+ys.length<=sizeLine /\
 (ys=[]->Q (.ref a) H)/\(ys≠[]->∀ p,H p=none->Q (.ref p) (upd H p (.tup (xs++ys))))
theorem Vals.wN{xs:List V}{us:List Value}(r:Vals xs us):us=[]↔xs=[]:=by
 cases r with
 |nil=>simp
 |cons _ _=>simp
theorem Ma:OpR X (binaryOp .Add) (O1 X.K):=by
 intro pins s σ H x y v u Q I rx ry h;obtain⟨a,b,xs,ys,rfl,rfl,ha,hb,hx,hz,q1,q2⟩:=h;cases rx;cases ry;obtain⟨its,r1,p1,_⟩:=I.tuple ha;obtain⟨its2,r2,p2,_⟩:=I.tuple hb;refine HT.LR p1 p2 (λz=>hx (r1.wN.mp z)) (λz=>⟨.ref a,H,I,rfl,q1 (r2.wN.mp z)⟩) (λz=>?_) (by rw[<-r1.length,<-r2.length];exact hz)
 refine⟨.ref s.heap.objs.size,_,I.laid (t':=s.toks) (o:=.tup (xs++ys)) (λb ob q=>Zad _ q) (Zak _) ?_,rfl,q2 (λw=>z (r2.wN.mpr w)) _ (I.hok.fresh (Zak _))⟩;exact⟨by rw[Zaw];exact hz,_,r1.append r2,eV.new _ _⟩
end
def ixN(n:Nat)(i:Int):Option Nat:=if 0<=i then(if i<n then some i.toNat else none) else if -(n:Int)<=i then some (i+n).toNat else none
def atI{α:Type}(xs:List α)(i:Int):Option α:=(ixN xs.length i).bind λj=>xs[j]?
theorem Ec{n:Nat}{i:Int}{j:Nat}(h:ixN n i=some j):seqIndex? i n=some j/\j<n/\-(n:Int)<=i/\i<n:=by
 unfold ixN at h;by_cases h0:0<=i
 ·rw[Zae h0] at h;by_cases h1:i<n
  ·rw[Zae h1] at h;have e:i.toNat=j:=Zaa h;exact⟨by rw[seqIndex_of h0 h1,e],by lia,by lia,h1⟩
  ·rw[Zaf h1] at h;cases h
 ·rw[Zaf h0] at h;by_cases h1:-(n:Int)<=i
  ·rw[Zae h1] at h;have e:(i+n).toNat=j:=Zaa h;exact⟨by rw[seqIndex_neg (by lia) h1,e],by lia,h1,by lia⟩
  ·rw[Zaf h1] at h;cases h
theorem wO{α:Type}{xs:List α}{i:Int}{v:α}(h:atI xs i=some v):∃ j,seqIndex? i xs.length=some j/\xs[j]?=some v/\j<xs.length/\-(xs.length:Int)<=i/\i<xs.length:=by
 unfold atI at h;cases e:ixN xs.length i with
 |none=>rw[e] at h;cases h
 |some j=>
  rw[e] at h;obtain⟨h1,h2,h3,h4⟩:=Ec e;exact⟨j,h1,h,h2,h3,h4⟩
theorem oM{α:Type}{xs:List α}{j:Nat}{v:α}(h:xs[j]?=some v):atI xs (j:Int)=some v:=by
 have hj:j<xs.length:=(Zar.mp h).1;have e:ixN xs.length (j:Int)=some j:=by
  unfold ixN;rw[Zae (by lia),Zae (by lia)];simp
 unfold atI;rw[e];exact h
def Mf(b:Expr):Prop:=∀ o i,subscripted b false o i=operate [o,i] (getItem o i)
def IxR(X:Cx)(r:R2):Prop:=
 ∀ (value slice:Expr) (pins:List (Addr×Obj)) (s:Shared) (σ:St) (H:Hp) (x y:V) (v u:Value) (Q:VK),Inv X pins σ H s->RelV x v->RelV y u->r x y H Q ->
  subscripted slice false v u=operate [v,u] (getItem v u)->wpAny (model X.prog X.w) X.A (subscriptTail value slice v u) (EP X pins σ Q) X.xe s
def MtR(X:Cx)(id:String)(r:V->List V->Hp->VK->Prop):Prop:=
 ∀ (pins:List (Addr×Obj)) (s:Shared) (σ:St) (H:Hp) (x:V) (xs:List V) (v:Value) (us:List Value) (Q:VK),Inv X pins σ H s->RelV x v->Vals xs us->r x xs H Q ->
  wpAny (model X.prog X.w) X.A (call (.builtin id) (v::us)) (EP X pins σ Q) X.xe s
section
variable{X:Cx}{a b:Expr}{ta tb:TE}{pos:Pos}
theorem IxR.or{r r':R2}(h:IxR X r)(h':IxR X r'):IxR X (λx y H Q=>r x y H Q\/r' x y H Q):=by
 intro value slice pins s σ H x y v u Q I rx ry q hs;rcases q with q|q
 ·exact h value slice pins s σ H x y v u Q I rx ry q hs
 ·exact h' value slice pins s σ H x y v u Q I rx ry q hs
theorem bj{r:R2}(hr:IxR X r)(ha:PE X a ta)(hb:PE X b tb)(hs:Mf b):PE X (.Subscript a b pos) (tOp r ta tb):=by
 intro pins s σ H Q I h;exact Subscript_ (Qp ha hb I h λv u s2 x y H2 I2 rx ry q=>hr a b pins s2 σ H2 x y v u Q I2 rx ry q (hs _ _))
def Sv(K:PySem.W.Frag):R2:=λx y H Q=>∃ p xs i v,x=.ref p/\y=.int i/\SqL K H p xs/\atI xs i=some v/\Q v H
def Sw(K:PySem.W.Frag):R2:=λx y H Q=>∃ p xs i v,x=.ref p/\y=.int i/\SqT K H p xs/\atI xs i=some v/\Q v H
def Sx:R2:=λx y H Q=>∃ z i c,x=.str z/\y=.int i/\z.length<=sizeLine/\atI z.cps.toList i=some c/\Q (.str ⟨#[c]⟩) H
theorem Mi:IxR X (Sv X.K):=by
 intro value slice pins s σ H x y v u Q I rx ry h hs;obtain⟨p,xs,i,z,rfl,rfl,hq,he,q⟩:=h;cases rx;obtain⟨t,rfl⟩:=ry;obtain⟨its,r,pl,hz⟩:=I.list hq;obtain⟨j,h1,h2,h3,h4,h5⟩:=wO he;obtain⟨w,ew,rw'⟩:=r.get h2;have hl:=r.length;have hn:=sJ;have fin:EP X pins σ Q w s:=⟨z,H,I,rw',q⟩;by_cases h0:0<=i
 ·have hj:i.toNat=j:=by
   rw[seqIndex_of h0 h5] at h1;exact Zaa h1
  exact item_listR pl.isList h0 (by lia) (by rw[hj];simpa using ew) fin hs
 ·have hj:(i+(its.toArray.size:Int)).toNat=j:=by
   rw[seqIndex_neg (by lia) h4] at h1
   rw[List.size_toArray,<-hl];exact Zaa h1
  exact subscriptTail_builtinR (x:=w) pl.isList.typeIs slot_list_getitem.lookup
   (wpAny_getItem_list_neg (Q:=λr s'=>r=w/\EP X pins σ Q r s') pl.isList (by lia) (by rw[List.size_toArray]<;>lia) (by lia) (by rw[hj];simpa using ew) ⟨rfl,fin⟩) hs
theorem QC:IxR X (Sw X.K):=by
 intro value slice pins s σ H x y v u Q I rx ry h hs;obtain⟨p,xs,i,z,rfl,rfl,hq,he,q⟩:=h;cases rx;obtain⟨t,rfl⟩:=ry;obtain⟨its,r,pl,hz⟩:=I.tuple hq;obtain⟨j,h1,h2,h3,h4,h5⟩:=wO he;obtain⟨w,ew,rw'⟩:=r.get h2;have hl:=r.length;have hn:=sJ;have fin:EP X pins σ Q w s:=⟨z,H,I,rw',q⟩;exact subscriptTail_builtinR (x:=w) pl.typeIs slot_tuple_getitem.lookup
  (getItem_tuple (j:=j) (Q:=λr s'=>r=w/\EP X pins σ Q r s') pl (by omega) (by omega) (by rw[List.size_toArray,<-hl];exact h1) (by simpa using ew) ⟨rfl,fin⟩) hs
theorem QD:IxR X Sx:=by
 intro value slice pins s σ H x y v u Q I rx ry h hs;obtain⟨z,i,c,rfl,rfl,hz,he,q⟩:=h;obtain⟨t,rfl⟩:=rx;obtain⟨t',rfl⟩:=ry;obtain⟨j,h1,h2,h3,h4,h5⟩:=wO he;have hl:z.cps.toList.length=z.length:=by simp[Str.length]
 rw[hl] at h1 h4 h5;have hn:=sJ;exact tail_any (typeIs_str s z t) slot_str_getitem.lookup (getItem_str (c:=c) (by
  have e1:decide (i < -(2^63:Int))=false:=Zaq (by lia)
  have e2:decide (i>=2^63)=false:=Zaq (by lia)
  rw[e1,e2,Bool.or_false]) (by rw[h1];simpa using h2) ⟨.str ⟨#[c]⟩,H,I.tok _,⟨_,rfl⟩,q⟩) hs
def rIx(K:PySem.W.Frag):R2:=λx y H Q=>Sv K x y H Q\/Sw K x y H Q\/Sx x y H Q
theorem aU:IxR X (rIx X.K):=Mi.or (QC.or QD)
theorem BX(its:List Value)(n j:Nat)(u:Value):Obj.mapSeq (·.setIfInBounds j u) { cls:=.type "list",data:=.seq its.toArray n }={ cls:=.type "list",data:=.seq (its.set j u).toArray n }:=by
 simp[Obj.mapSeq]
theorem Inv.lst{pins:List (Addr×Obj)}{σ:St}{H:Hp}{s:Shared}{p:Addr}{xs:List V}(I:Inv X pins σ H s)(h:H p=some (.lst xs)) :
  ∃ (its:List Value) (n:Nat),Vals xs its/\s.heap.get? p=some { cls:=.type "list",data:=.seq its.toArray n }/\xs.length<=sizeLine:=by
 obtain⟨z,its,n,r,e⟩:=I.hok p _ h;exact⟨its,n,r,e,z⟩
theorem Inv.QG{pins:List (Addr×Obj)}{σ:St}{H:Hp}{s:Shared}{p:Addr}{xs ys:List V}{its its':List Value}{n n':Nat}{f:Obj->Obj}(I:Inv X pins σ H s)(h:H p=some (.lst xs))
  (ho:s.heap.get? p=some { cls:=.type "list",data:=.seq its.toArray n })(hf:f { cls:=.type "list",data:=.seq its.toArray n }={ cls:=.type "list",data:=.seq its'.toArray n' })(r:Vals ys its')(hz:ys.length<=sizeLine)(t:Nat) :
  Inv X pins σ (upd H p (.lst ys)) { s with heap:=s.heap.update p f,toks:=t }:=by
 have e:(s.heap.update p f).get? p=some { cls:=.type "list",data:=.seq its'.toArray n' }:=by
  rw[Zbb f ho (by rw[hf]<;>rfl),hf]
 refine I.write (x:=p) (e:=p) (by rw[h];trivial) (.inl rfl) (λb u hb q=>(ZaM _ _ (ZaS hb)).trans q) ⟨_,e⟩ ?_
 exact⟨hz,its',n',r,e⟩
def O2:V->V->V->Hp->(Hp->Prop)->Prop:=λo i v H Q=>∃ p xs k j,o=.ref p/\i=.int k/\H p=some (.lst xs)/\ixN xs.length k=some j/\Q (upd H p (.lst (xs.set j v)))
theorem set_list:R5 X O2:=by
 intro pins s σ H o i v ov iv u Q I ro ri rv h;obtain⟨p,xs,k,j,rfl,rfl,hp,hj,q⟩:=h;cases ro;obtain⟨t,rfl⟩:=ri;obtain⟨its,n,r,ho,hz⟩:=I.lst hp;obtain⟨h1,h2,h3,h4⟩:=Ec hj;have hl:=r.length;have hn:=sJ;have I':Inv X pins σ (upd H p (.lst (xs.set j v))) { s with heap:=s.heap.update p (Obj.mapSeq (·.setIfInBounds j u)) }:=
  I.QG hp ho (BX its n j u) (r.set rv j) (by rw[List.length_set];exact hz) s.toks
 by_cases h0:0<=k
 ·have hk:k.toNat=j:=by
   rw[seqIndex_of h0 h4] at h1;exact Zaa h1
  exact PySem.W.ki_setAt ho h0 (by omega) (by rw[List.size_toArray,<-hl];exact h4) (by rw[hk];exact⟨_,I',q⟩)
 ·have hk:(k+(its.toArray.size:Int)).toNat=j:=by
   rw[seqIndex_neg (by omega) h3] at h1
   rw[List.size_toArray,<-hl];exact Zaa h1
  exact PySem.W.ki_setBack ho (by omega) (by rw[List.size_toArray,<-hl];exact h3) (by omega) (by rw[hk];exact⟨_,I',q⟩)
theorem wQ(lo hi:Option Int)(n:Nat):(sliceBounds lo hi none n).1=((HT.sIx n 0 lo:Nat):Int)/\(sliceBounds lo hi none n).2.1=((HT.sIx n n hi:Nat):Int)/\(sliceBounds lo hi none n).2.2=1:=by
 refine⟨?_,?_,rfl⟩
 ·cases lo with
  |none=>simp[sliceBounds,HT.sIx]
  |some i=>
   simp only[sliceBounds,HT.sIx,Option.getD_none,show(1:Int)>0 by decide,ZaU]
   by_cases h:i<0
   ·simp only[h,ZaU]<;>lia
   ·simp only[h,ZaI]<;>lia
 ·cases hi with
  |none=>simp[sliceBounds,HT.sIx]
  |some i=>
   simp only[sliceBounds,HT.sIx,Option.getD_none,show(1:Int)>0 by decide,ZaU]
   by_cases h:i<0
   ·simp only[h,ZaU]<;>lia
   ·simp only[h,ZaI]<;>lia
theorem uX(its:List Value)(lo hi:Option Int):slicePick its.toArray lo hi none=((its.drop (HT.sIx its.length 0 lo)).take (HT.sIx its.length its.length hi-HT.sIx its.length 0 lo)).toArray:=by
 obtain⟨h1,h2,h3⟩:=wQ lo hi its.toArray.size;unfold slicePick;rw[h1,h2,h3];simp only[sliceRange_one,pick_run,List.size_toArray]<;>rfl
def Sy(K:PySem.W.Frag):V->Option Int->Option Int->Hp->VK->Prop:=λx lo hi H Q=>∃ a xs,x=.ref a/\SqL K H a xs/\∀ p,H p=none->Q (.ref p) (upd H p (.lst (wL xs lo hi)))
theorem Mj:SlR X (Sy X.K):=by
 intro pins s σ H x v vl vu lo hi sl Q I rx hs pl pu h;obtain⟨a,xs,rfl,hx,q⟩:=h;cases rx;obtain⟨its,r,ht,hz⟩:=I.list hx;have hlen:=r.length;refine⟨"list",_,slot_list_getitem.lookup,ht.isList.typeIs,?_⟩;refine wpAny_getItem_list_slice ht.isList hs pl pu .none (by simp) ?_ (by rw[List.size_toArray]<;>lia)
 rw[uX,<-hlen];refine⟨.ref s.heap.objs.size,_,I.laid (t':=s.toks) (o:=.lst (wL xs lo hi)) (λb ob q=>Zad _ q) (Zak _) ?_,rfl,q _ (I.hok.fresh (Zak _))⟩;exact⟨Zau (qH xs lo hi) hz,_,0,(r.drop (HT.sIx xs.length 0 lo)).take (HT.sIx xs.length xs.length hi-HT.sIx xs.length 0 lo),Zas _ rfl⟩
def Uu:V->Bool
 |.non=>true
 |.bl _=>true
 |.int _=>true
 |.str _=>true
 |_=>false
def eqV:V->V->Bool
 |.non,.non=>true
 |.bl a,.bl b=>a==b
 |.bl a,.int b=>(if a then 1 else 0)==b
 |.int a,.bl b=>a==(if b then 1 else 0)
 |.int a,.int b=>a==b
 |.str a,.str b=>a==b
 |_,_=>false
theorem jN:lq X (.type "list") (λxs H Q=>∃ p ys,xs=[.ref p]/\(SqL X.K H p ys\/SqT X.K H p ys)/\∀ l,H l=none->Q (.ref l) (upd H l (.lst ys))):=by
 intro pins s σ H xs us Q I r h;obtain⟨p,ys,rfl,hq,q⟩:=h;obtain⟨u,rfl,rx⟩:=vals1 r;cases rx;have fin:∀ (its:List Value),Vals ys its->ys.length<=sizeLine->∀ (h':Heap) (c':Nat),(∀ b o',s.heap.get? b=some o'->h'.get? b=some o') ->
   h'.get? s.heap.objs.size=some { cls:=.type "list",dict:=none,data:=.seq its.toArray c',slots:=#[] }->EP X pins σ Q (.ref s.heap.objs.size) { s with heap:=h' }:=λits r' hz h' c' kp e=>
  ⟨.ref s.heap.objs.size,_,I.laid (t':=s.toks) kp (Zak _) (show cY X.prog X.w _ h' _ (.lst ys) from⟨hz,its,c',r',e⟩),rfl,q _ (I.hok.fresh (Zak _))⟩
 rcases hq with hq|hq
 ·obtain⟨its,r',pl,hz⟩:=I.list hq;have hlen:=r'.length;obtain⟨o,ho,hc,n,hd⟩:=pl.isList;exact call_list_seq p (.inl rfl) ho hc hd (λh' c' kp e=>fin its r' hz h' c' kp e) (by simp only[List.size_toArray]<;>omega)
 ·obtain⟨its,r',pl,hz⟩:=I.tuple hq;have hlen:=r'.length;obtain⟨o,ho,hc,n,hd⟩:=pl;exact call_list_seq p (.inr rfl) ho hc hd (λh' c' kp e=>fin its r' hz h' c' kp e) (by simp only[List.size_toArray]<;>omega)
theorem uY:lq X (.type "tuple") (λxs H Q=>∃ p ys,xs=[.ref p]/\((SqL X.K H p ys/\∀ l,H l=none->Q (.ref l) (upd H l (.tup ys)))\/(SqT X.K H p ys/\Q (.ref p) H))):=by
 intro pins s σ H xs us Q I r h;obtain⟨p,ys,rfl,h⟩:=h;obtain⟨u,rfl,rx⟩:=vals1 r;cases rx;rcases h with⟨hq,q⟩|⟨hq,q⟩
 ·obtain⟨its,r',pl,hz⟩:=I.list hq;have hlen:=r'.length;refine call_tuple_list pl.isList (λh' kp=>?_) (by simp only[List.size_toArray]<;>omega)
  have I1:Inv X pins σ H { s with heap:=h' }:=I.kept (t':=s.toks) kp;have I2:Inv X pins σ (upd H h'.objs.size (.tup ys)) { s with heap:=h'.push { cls:=.type "tuple",data:=.seq its.toArray } }:=
   I1.laid (t':=s.toks) (λb o e=>Zad _ e) (Zak _) (show cY X.prog X.w _ _ _ (.tup ys) from⟨hz,its,r',eV.new _ _⟩)
  exact⟨.ref h'.objs.size,_,I2,rfl,q _ (I1.hok.fresh (Zak _))⟩
 ·obtain⟨its,r',pl,hz⟩:=I.tuple hq;exact call_tuple_same pl ⟨.ref p,H,I,rfl,q⟩
def tyV(K:PySem.W.Frag)(T:String)(x:V)(H:Hp):Prop:=match x with
 |.str _=>T="str"
 |.int _=>T="int"
 |.ref p=>(T="list"/\∃ xs,SqL K H p xs)\/(T="tuple"/\∃ o,K.lookup p=some o/\o.cls=.type "tuple"/\o.dict=none) \/
   (T="dict"/\((∃ kvs,H p=some (.dK kvs))\/∃ kvs,H p=some (.dT kvs)))\/(T="set"/\∃ S n,H p=some (.set S n))
 |_=>False
theorem QH{pins:List (Addr×Obj)}{σ:St}{H:Hp}{s:Shared}{T:String}{x:V}{v:Value}(I:Inv X pins σ H s)(r:RelV x v)(ty:tyV X.K T x H) :
  s.TypeIs v T/\∀ a,v=.ref a->∃ ob,s.heap.get? a=some ob/\ob.dict=none:=by
 cases x with
 |str z=>
  obtain⟨t,rfl⟩:=r;cases (show T="str" from ty);exact⟨typeIs_str s z t,λ_ e=>nomatch e⟩
 |int i=>
  obtain⟨t,rfl⟩:=r;cases (show T="int" from ty);exact⟨typeIs_int s i t,λ_ e=>nomatch e⟩
 |ref p=>
  cases r;rcases ty with⟨rfl,xs,hq⟩|⟨rfl,o,hk,hc,hd⟩|⟨rfl,hk⟩|⟨rfl,S,n,hk⟩
  ·obtain⟨its,_,pl,_⟩:=I.list hq;refine⟨pl.isList.typeIs,λa e=>?_⟩;cases e;obtain⟨o,n,e,c,hd,_⟩:=pl;exact⟨o,e,hd⟩
  ·refine⟨⟨o,I.kIn p o hk,hc⟩,λa e=>?_⟩;cases e;exact⟨o,I.kIn _ o hk,hd⟩
  ·have z:∃ o,s.heap.get? p=some o/\o.ExactDict:=by
    rcases hk with⟨kvs,hk⟩|⟨kvs,hk⟩
    ·obtain⟨_,_,_,_,o,_,_,e,ex,_⟩:=I.hok p _ hk;exact⟨o,e,ex⟩
    ·obtain⟨_,_,_,_,o,_,_,e,ex,_⟩:=I.hok p _ hk;exact⟨o,e,ex⟩
   obtain⟨o,e,ex⟩:=z;refine⟨⟨o,e,ex.1⟩,λa e2=>?_⟩;cases e2;exact⟨o,e,ex.2.1⟩
  ·obtain⟨o,_,_,_,e,ex,_⟩:=I.hok p _ hk;refine⟨⟨o,e,ex.1⟩,λa e2=>?_⟩;cases e2;exact⟨o,e,ex.2.1⟩
 |_=>exact False.elim ty
def tBM(K:PySem.W.Frag)(T:String)(r:V->List V->Hp->VK->Prop)(to:TE)(t:TA):TE:=λσ H Q=>to σ H λx H1=>tyV K T x H1/\t σ H1 λxs H2=>r x xs H2 Q
variable{o e:Expr}{es:List Expr}{to:TE}{t:TA}{name:Str}{apos cpos:Pos}{T id:String}{r:V->List V->Hp->VK->Prop}
theorem Ed(pa:PlainAttrs T)(slot:Slot T name id)(hty:typeOf (.builtin id)=pure (.type "method_descriptor"))(hm:MtR X id r)(ho:PE X o to)(ha:PA X (e::es) t)
  (hbase:attributeBase o name X.env (eval o X.env)=eval o X.env:=by rfl)
  (hfew:((backTo cpos (starEach (e::es) X.env)).all (λx=>!x.1)&&(backToKw cpos (keywordEach [] X.env)).all (λx=>x.1.isSome)
   && decide ((e::es).length+([]:List Keyword).length+(if([]:List Keyword).isEmpty then 0 else 1)<30))=true:=by rfl)
  (hline:(apos.endLine==cpos.line)=true:=by rfl)(hs:starEach (e::es) X.env=(false,eval e X.env)::starEach es X.env:=by rfl)(hplain:(backTo cpos (starEach es X.env)).any (·.1)=false:=by rfl) :
  PE X (.Call (.Attribute o name apos) (e::es) [] cpos) (tBM X.K T r to t):=by
 intro pins s σ H Q I h;refine wpAny_Call_method_late hbase hfew hline rfl (thn (ho pins s σ H _ I h) ?_);rintro v s1 ⟨x,H1,I1,r1,ty,q1⟩;obtain⟨h1,h2⟩:=QH I1 r1 ty;refine⟨T,id,pa,slot,hty,h1,h2,?_⟩;have hA:=ha cpos pins s1 σ H1 _ I1 q1;rw[hs] at hA ⊢;refine Calls.callWith_builtin (by show(false||(backTo cpos (starEach es X.env)).any (·.1))=false;rw[hplain]<;>rfl) (Calls.evalArgs_plain ?_)
 exact thn hA λus s2 ⟨vs,H2,I2,r2,q2⟩=>hm pins s2 σ H2 x vs v us Q I2 r1 r2 q2
end
def MtM(X:Cx)(id:String)(r:V->List V->Hp->VK->Prop):Prop:=
 ∀ (pins:List (Addr×Obj)) (s:Shared) (σ:St) (H:Hp) (x:V) (xs:List V) (v:Value) (us:List Value) (Q:VK),Inv X pins σ H s->RelV x v->Vals xs us->r x xs H Q ->
  wpAny (model X.prog X.w) X.A (call (.builtin id) (v::us)) (EP X pins σ Q) X.xe s
theorem Vals.one:∀ {x:V}{us:List Value},Vals [x] us->∃ u,us=[u]/\RelV x u
 |_,_,.cons r .nil=>⟨_,rfl,r⟩
theorem Vals.two:∀ {x y:V}{us:List Value},Vals [x,y] us->∃ u v,us=[u,v]/\RelV x u/\RelV y v
 |_,_,_,.cons r (.cons q .nil)=>⟨_,_,rfl,r,q⟩
theorem Vals.eraseIdx:∀ {xs:List V}{us:List Value} (i:Nat),Vals xs us->Vals (xs.eraseIdx i) (us.eraseIdx i)
 |_,_,_,.nil=>.nil
 |_,_,0,.cons _ t=>t
 |_,_,i+1,.cons r t=>.cons r (Vals.eraseIdx i t)
theorem Vals.rep{xs:List V}{us:List Value}(h:Vals xs us):∀ k:Nat,Vals (List.replicate k xs).flatten (List.replicate k us).flatten
 |0=>.nil
 |k+1=>by
  rw[ZaJ,ZaJ,Za4,Za4];exact Vals.append h (Vals.rep h k)
theorem vI{α:Type}:∀ (l:List α) (i:Nat),(l.eraseIdx i).length<=l.length
 |[],_=>Zak _
 |_::_,0=>ZbQ _
 |_::r,i+1=>Nat.succ_le_succ (vI r i)
theorem foldl_rep(its:List Value):∀ (k:Nat) (acc:List Value),
  List.foldl (λx1 x2=>x1++x2) acc.toArray (List.replicate k its.toArray)=(acc++(List.replicate k its).flatten).toArray
 |0,acc=>by simp
 |k+1,acc=>by
  have e:acc.toArray++its.toArray=(acc++its).toArray:=by simp
  have e2:(acc++its)++(List.replicate k its).flatten=acc++(List.replicate (k+1) its).flatten:=by
   rw[ZaJ,Za4,List.append_assoc]
  rw[<-e2,<-foldl_rep its k (acc++its),<-e,ZaJ,ZbX]
section
variable{X:Cx}{pins:List (Addr×Obj)}{σ:St}{H:Hp}{s:Shared}{l:Addr}{xs ys:List V}
theorem Inv.SJ{its its':List Value}{n:Nat}{f:Array Value->Array Value}{t':Nat}(I:Inv X pins σ H s)(hH:H l=some (.lst xs))
  (e:s.heap.get? l=some { cls:=.type "list",data:=.seq its.toArray n })(hf:f its.toArray=its'.toArray)(hv:Vals ys its')(hz:ys.length<=sizeLine) :
  Inv X pins σ (upd H l (.lst ys)) { s with heap:=s.heap.update l (Obj.mapSeq f),toks:=t' }:=by
 have q:=PySem.IsL.update e f;rw[hf] at q;refine I.write (x:=l) (e:=l) (by rw[hH];exact trivial) (.inl rfl) (λb' u hb hu=>(ZaM s.heap (Obj.mapSeq f) (ZaS hb)).trans hu) ⟨_,q⟩ ?_
 exact⟨hz,its',_,hv,q⟩
theorem Inv.SM{its:List Value}{t':Nat}(I:Inv X pins σ H s)(hv:Vals ys its)(hz:ys.length<=sizeLine) :
  Inv X pins σ (upd H s.heap.objs.size (.lst ys)) { s with heap:=s.heap.push { cls:=.type "list",data:=.seq its.toArray },toks:=t' }:=
 I.laid (λ_ _ q=>Zad _ q) (Zak _) ⟨hz,its,0,hv,Zas _ rfl⟩
theorem Inv.fresh(I:Inv X pins σ H s):H s.heap.objs.size=none:=I.hok.fresh (Zak _)
theorem Inv.QJ(I:Inv X pins σ H s)(hH:H l=some (.lst xs)):xs.length<=sizeLine/\∃ (its:List Value) (n:Nat),Vals xs its/\xs.length=its.length/\s.heap.get? l=some { cls:=.type "list",data:=.seq its.toArray n }:=by
 obtain⟨z,its,n,r,e⟩:=I.hok l _ hH;exact⟨z,its,n,r,r.length,e⟩
theorem Jl{n:Nat}(h:n<=sizeLine):Builtin.List.listTooLong n=false:=by
 unfold Builtin.List.listTooLong;exact Zaq (by omega)
end
section
variable{X:Cx}
def wR:V->List V->Hp->VK->Prop:=λx vs H Q=>∃ l xs y,x=.ref l/\vs=[y]/\H l=some (.lst xs)/\xs.length<sizeLine/\Q .non (upd H l (.lst (xs++[y])))
theorem mO:MtM X "list.append" wR:=by
 intro pins s σ H x vs v us Q I rx rv h;obtain⟨l,xs,y,rfl,rfl,hH,hz,q⟩:=h;cases rx;obtain⟨u,rfl,ru⟩:=rv.one;obtain⟨z,its,n,r,hl,e⟩:=I.QJ hH;refine call_meets F.slot_list_append ⟨_,e,rfl⟩ F.entry_list_append (F.args_list_append_2 _ _) (PySem.list_append l its.toArray n u (by rw[List.size_toArray];lia)) ⟨e,?_⟩
 refine⟨.non,_,I.SJ (its':=its++[u]) hH e (by simp) (r.append (.cons ru .nil)) ?_,rfl,q⟩
 rw[Zaw,List.length_singleton];lia
def Jm:V->List V->Hp->VK->Prop:=λx vs H Q=>∃ l xs i k y,x=.ref l/\vs=[.int i]/\H l=some (.lst xs)/\-(2^63)<=i/\i<2^63/\seqIndex? i xs.length=some k/\xs[k]?=some y/\Q y (upd H l (.lst (xs.eraseIdx k)))
theorem Jo:MtM X "list.pop" Jm:=by
 intro pins s σ H x vs v us Q I rx rv h;obtain⟨l,xs,i,k,y,rfl,rfl,hH,h1,h2,hk,hy,q⟩:=h;cases rx;obtain⟨u,rfl,ru⟩:=rv.one;obtain⟨t,rfl⟩:=ru;obtain⟨z,its,n,r,hl,e⟩:=I.QJ hH;obtain⟨w,hw,rw'⟩:=r.get hy;refine call_meets F.slot_list_pop ⟨_,e,rfl⟩ F.entry_list_pop (F.args_list_pop_2 _ _)
  (MeetsSeq.list_pop_at l its.toArray n i t k w (fitsIndex_both h1 h2) (by rw[List.size_toArray,<-hl];exact hk) (by rw[<-Array.getElem?_toList];exact hw) (by rw[List.size_toArray];omega)) ⟨e,?_⟩
 refine⟨y,_,I.SJ (its':=its.eraseIdx k) hH e ?_ (r.eraseIdx k) ?_,rw',q⟩
 ·show its.toArray.eraseIdxIfInBounds k=(its.eraseIdx k).toArray
  rw[List.eraseIdxIfInBounds_toArray]
 ·have:=vI xs k;omega
def SN:R2:=λx y H Q=>∃ l k xs,x=.ref l/\y=.int k/\H l=some (.lst xs)/\-(2^63)<=k/\k<2^63/\xs.length*k.toNat<=sizeLine /\
 ∀ p,H p=none->Q (.ref p) (upd H p (.lst (List.replicate k.toNat xs).flatten))
theorem len_rep{α:Type}(xs:List α)(k:Nat):(List.replicate k xs).flatten.length=k*xs.length:=by
 induction k with
 |zero=>simp
 |succ k ih=>rw[ZaJ,Za4,Zaw,ih,Nat.succ_mul,Nat.add_comm]
theorem QK:OpR X (binaryOp .Mult) SN:=by
 intro pins s σ H x y v u Q I rx ry h;obtain⟨l,k,xs,rfl,rfl,hH,h1,h2,hz,q⟩:=h;cases rx;obtain⟨t,rfl⟩:=ry;obtain⟨z,its,n,r,hl,e⟩:=I.QJ hH;have hlen:its.toArray.size*k.toNat<=sizeLine:=by rw[List.size_toArray,<-hl];exact hz
 have hcap:¬its.toArray.size*k.toNat>(2^63-1)/8:=by
  have:(sizeLine:Nat)<=(2^63-1)/8:=by decide
  omega
 have hfit:¬(!Builtin.List.listFitsIndex k)=true:=by
  rw[fitsIndex_both h1 h2];exact ZbI
 have hlong:¬Builtin.List.listTooLong (its.toArray.size*k.toNat)=true:=by
  rw[Jl hlen];exact ZbI
 have hnew:List.foldl (λx1 x2=>x1++x2) #[] (List.replicate (if its.toArray.isEmpty=true then 0 else k.toNat) its.toArray)=(List.replicate k.toNat its).flatten.toArray:=by
  have f0:∀ m:Nat,List.foldl (λx1 x2=>x1++x2) #[] (List.replicate m its.toArray)=(List.replicate m its).flatten.toArray:=λm=>by
   have:=foldl_rep its m [];rw[List.nil_append] at this;exact this
  rw[f0];cases its with
  |nil=>simp
  |cons a r'=>rw[Zaf (by simp)]
 refine wpAny_binaryOp_repeat_ref (T:="list") (U:="int") (by decide) ⟨_,e,rfl⟩ (λs'=>typeIs_int s' k t) noFill_list_mul F.fills_int_mul F.slot_int_rmul repeat_list F.slot_int_index.lookup
  (call_meets F.slot_int_rmul (typeIs_int s k t) F.entry_int_rmul (F.args_int_rmul_2 _ _) (int___rmul___int_list k t l its.toArray n)
   ⟨e,rfl,⟨_,e,rfl⟩,call_meets F.slot_list_mul ⟨_,e,rfl⟩ F.entry_list_mul (F.args_list_mul_2 _ _) (AutoListH.list___mul___list_int_3 l its.toArray n k t hfit hcap hlong) ⟨e,?_⟩⟩)
 rw[hnew];exact⟨.ref _,_,I.SM (t':=s.toks) (r.rep k.toNat) (by rw[len_rep,Nat.mul_comm];exact hz),rfl,q _ I.fresh⟩
end
end L2
namespace Att
open PySem PySem.W PySem.Calls PyProof.Rows
theorem q9{P:Params}{h:Heap}:∀ (ns:List Int) (vs:List Value),WellAll P h vs (ns.map WData.int)->IntsAre vs ns:=by
 intro ns;induction ns with
 |nil=>
  intro vs w;rw[List.map_nil] at w;cases w;exact .nil
 |cons n ns ih=>
  intro vs w;rw[ZaA] at w;cases w with
  |cons a b=>
   cases a;exact .cons _ _ (ih _ b)
theorem GC{l:OpenLaw}{n:Nat}(hn:l.most=some n){P:Params}{h:Heap}{args:List WData}{vals:List Value}
  (hpre:l.row.toRowW.claim.pre args=true)(hwl:WellAll P h vals args) :
  ∃ a vs ns,vals=[Value.ref a]/\args=[WData.list (ns.map WData.int)]/\h.get? a=some { cls:=.type "list",data:=.seq vs.toArray }/\IntsAre vs ns/\ns.length<=n:=by
 have hsh:WShape.hasAll [] args [.list .int]=true:=(pre_splitW hpre).1;have hc:l.pre.holds [] { args:=args }=true:=(pre_splitW hpre).2;obtain⟨d,r,rfl,h1,h2⟩:=hasAllW_cons hsh;obtain rfl:=hasAllW_nil h2;obtain⟨xs,rfl,h3⟩:=hasW_list h1;obtain⟨ns,rfl⟩:=items_int h3;have hlen:ns.length<=n:=by
  unfold OpenLaw.pre at hc;have h4:(WTm.not (.lt (.lit (.int (n:Int))) (.len (.arg 0)))).holds [] { args:=[.list (ns.map .int)] }=true:=by
   have h4:=(holds_andW hc).1;rw[hn] at h4;exact h4
  have h5:=condW_of h4 (w_not (w_lt w_lit (w_len_list (w_arg rfl))));rw[Zam] at h5;refine Nat.le_of_not_lt λq=>?_;have q':(n:Int)<((ns.length:Nat):Int):=by omega
  first
   |(rw[decide_eq_true q'] at h5;exact absurd h5 (by decide))
   |(simp at h5;omega)
 cases hwl with
 |cons w1 w2=>
  cases w2;cases w1 with
  |list ho hall=>exact⟨_,_,ns,rfl,rfl,ho,q9 ns _ hall,hlen⟩
theorem GD(l:OpenLaw)(args:List WData):l.row.toRowW.claim.post args (.bool true) args=true:=
 postW_of (r:=l.row.toRowW) (X:=(true==true))
  (show WShape.has [] (.bool true) .bool=true by first|rfl|decide|simp[WShape.has,WShape.arms,WShape.armsAll])
  (show(WTm.eq .res (.lit (.bool true))).value [] { args:=args,res:=some (.bool true),after:=args }=some (.bool (true==true)) from w_eq_bool (w_res rfl) w_lit) rfl
theorem yS{l:OpenLaw}{n:Nat}{q:Program}{loose:List Str}{XP:(Str->Option Value)->Heap->Prop}{YP:World->Heap->Prop}{d:DefRec}
  (hn:l.most=some n)(hdf:d.params.defaults=[])
  (call:∀ (w:World) (s₀ s₁:Shared) (mg mb:Str->Option Value) (fa:Addr) (o:Obj) (pm cd doc:Value) (a:Addr) (vs:List Value) (ns:List Int),
   Ground q loose [] XP w s₀ mg mb s₁.heap->YP w s₁.heap ->
   s₁.heap.get? fa=some o->o.data=.func (docDef d.name d.params d.body d.scope pm cd doc)->s₁.heap.CodeRec cd d.name->mg d.name=some (.ref fa) ->
   s₁.heap.get? a=some { cls:=.type "list",data:=.seq vs.toArray }->IntsAre vs ns->ns.length<=n->s₁.gens=#[] ->
   codeAny (model l.prog w) callerA (.call (.ref fa) ⟨[.ref a],[]⟩) (λr s'=>r=.ok (.ret (.bool true))/\OldK s₁.heap s'.heap/\s'.os=s₁.os/\AllBare s'.gens) s₁) :
  WalkO q loose XP YP l.row.toRowW d [] (λf vs=>PySem.call f vs):=by
 intro w s₀ s₁ mg mb G Y fa o pm cd doc dV kV ho hd hcd hD hmg hg args vals as hpre hlay hrd hwl hlo;obtain rfl:dV=.none:=Dflts.none hD hdf;obtain rfl:kV=.none:=Dflts.noKw hD;obtain⟨a,vs,ns,rfl,rfl,hobj,hints,hlen⟩:=GC hn hpre hwl;refine enter_call (codeAny_mono (call w s₀ s₁ mg mb fa o pm cd doc a vs ns G Y ho (fd_plain hd) hcd hmg hobj hints hlen hg) λr s' hq=>?_);obtain⟨rfl,h2,h3,h4⟩:=hq;exact⟨.inl ⟨.bool true,.bool true,[],rfl,λ_=>rfl,.bool true,GD l _,λ_=>⟨List.Pairwise.nil,λ_ hm=>(nomatch hm)⟩⟩,h2,h3,h4⟩
end Att
namespace L2
open PySem PySem.Spec PyProof.Rows
theorem mQ:∀ {vs:List Value}{ns:List Int},IntsAre vs ns->Vals (ns.map V.int) vs
 |_,_,.nil=>.nil
 |_,_,.cons n t h=>.cons ⟨t,rfl⟩ (mQ h)
def Only(H:Hp):Prop:=∀ b,H b=none\/∃ o xs,H b=some (.frz o (.lst xs))
theorem Jp{P:Program}{w:World}{K:PySem.W.Frag}{mg mb:Str->Option Value}{CX:CXT}{k:Nat}{fa a:Addr}{fd:FuncData}{x:Str}{sp:Sp}{s₁:Shared}{vs:List Value}{ns:List Int}
  (KX:K.In s₁.heap)(hns:s₁.heap.Ns mainGlobals mg)(hb:s₁.heap.Ns builtinsNs mb)(hbb:∀ x:Str,x≠"__name__"->mb x=bootBuiltins x)(hlim:s₁.heap.NoLimit)(hg:s₁.gens=#[])
  (ha:s₁.heap.get? a=some { cls:=.type "list",data:=.seq vs.toArray })(hi:IntsAre vs ns)(hl:ns.length<=sizeLine)(hr:cB k callerA)
  (F:∀ base:Heap,K.In base->base.Ns mainGlobals mg->jg P w K mg base CX k fa fd [x] sp)(hbind:∀ (s:Shared) (u:Value),BindsTo s fd ⟨[u],[]⟩ [(x,u)])
  (hsp:∀ H:Hp,Only H->SqL K H a (ns.map V.int)->sp [.ref a] H (λv _=>v=.bl true) λ_ _ _=>False)
  (hCX:∀ H e s',CX [] H s₁ (λ_ _ _=>False) e s'->False) :
  codeAny (model P w) callerA (.call (.ref fa) ⟨[.ref a],[]⟩) (λr s'=>r=.ok (.ret (.bool true))/\OldK s₁.heap s'.heap/\s'.os=s₁.os/\AllBare s'.gens) s₁:=by
 have rv:=mQ hi;have lenV:=hi.length;have core:∀ H:Hp,Only H->SqL K H a (ns.map V.int)->HOk P w H s₁.heap->(∀ b,H b≠none->b=a)->(H a≠none->K.lookup a=none) ->
   codeAny (model P w) callerA (.call (.ref fa) ⟨[.ref a],[]⟩) (λr s'=>r=.ok (.ret (.bool true))/\OldK s₁.heap s'.heap/\s'.os=s₁.os/\AllBare s'.gens) s₁:=by
  intro H hO hS hok hA hK;have base_of:∀ {b:Addr}{o:Obj},s₁.heap.get? b=some o->H b=none->(wA s₁.heap H).get? b=some o:=λe n=>Iw e n;have noA:∀ {b:Addr}{o:Obj}{es:Array DictEntry}{ep:Nat},s₁.heap.get? b=some o->o.data=.dict es ep->H b=none:=λ{b o es ep} e d=>by
   cases q:H b with
   |none=>rfl
   |some u=>
    have e':b=a:=hA b (by rw[q];simp)
    subst e';rw[ha] at e;cases e;have d':Data.seq vs.toArray _=Data.dict es ep:=d;cases d'
  have nsK:∀ {b:Addr}{m:Str->Option Value},s₁.heap.Ns b m->(wA s₁.heap H).Ns b m:=λ{b m} ⟨o,es,ep,e,d,r⟩=>⟨o,es,ep,base_of e (noA e d),d,r⟩;have hKb:K.In (wA s₁.heap H):=λb o e=>base_of (KX b o e) (by
   cases q:H b with
   |none=>rfl
   |some u=>
    have e':b=a:=hA b (by rw[q];simp)
    subst e';rw[hK (by rw[q];simp)] at e;cases e)
  have hM:Mod K mg (wA s₁.heap H):=⟨hKb,nsK hns,⟨mb,nsK hb,hbb⟩,let⟨mc,h1,h2⟩:=hlim;⟨mc,nsK h1,h2⟩⟩;have e0:BR P w K mg (wA s₁.heap H) callerA [] s₁ H:=⟨rfl,hM,λb o e=>Lq e,Nat.le_of_eq (Gp _ _),trivial,λb hb=>absurd (show b∈([]:List Addr) from hb) (by simp),hok,.of_eq hg⟩
  refine codeAny_mono ((F _ hKb (nsK hns)).run callerA [] s₁ H ⟨[.ref a],[]⟩ [.ref a] [.ref a] _ _ hr e0 (hbind s₁ (.ref a)) (.cons rfl .nil) (hsp H hO hS)) λr s' h=>?_;cases r with
  |error e=>exact(hCX H e s' h).elim
  |ok fl=>
   cases fl with
   |next=>exact False.elim h
   |brk=>exact False.elim h
   |cont=>exact False.elim h
   |ret u=>
    obtain⟨v,H',os,bare,un,hok',r',q⟩:=h;have q':v=.bl true:=q;subst q';obtain rfl:u=Value.bool true:=r';refine⟨rfl,OldK.of_keep λb o e=>?_,os,bare⟩;cases q:H b with
    |none=>exact un.keep b o e q (by intro z;exact absurd (show b∈([]:List Addr) from z) (by simp)) (by simp)
    |some u=>
     rcases hO b with z|⟨ob,xs,z⟩
     ·rw[q] at z;cases z
     ·have z2:=un.frzs b ob _ z;obtain⟨e1,_⟩:=hok b _ z;obtain⟨e2,_⟩:=hok' b _ z2;rw[e] at e1;cases e1;exact e2
 cases hk:K.lookup a with
 |some o=>
  have e:=KX a o hk;rw[ha] at e;cases e;refine core (λ_=>none) (λ_=>.inl rfl) (.inr ⟨_,vs.toArray,_,hk,rfl,rfl,rfl,by rw[List.size_toArray,lenV];exact hl,by simpa using rv⟩) (λb u z=>by have z':(none:Option HO)=some u:=z;cases z') (λb z=>absurd rfl z) λz=>absurd rfl z
 |none=>
  refine core (λb=>if b=a then some (.frz { cls:=.type "list",data:=.seq vs.toArray } (.lst (ns.map V.int))) else none) (λb=>?_) (.inl (.inr ⟨{ cls:=.type "list",data:=.seq vs.toArray },Zae rfl⟩)) (λb u z=>?_) (λb z=>?_) λ_=>hk
  ·by_cases hb:b=a
   ·exact .inr ⟨_,_,Zae hb⟩
   ·exact .inl (Zaf hb)
  ·by_cases hb:b=a
   ·have z':=(Zae hb).symm.trans z;cases z';subst hb;exact⟨ha,by rw[Zam];exact hl,vs,_,rv,ha⟩
   ·have z':=(Zaf hb).symm.trans z;cases z'
  ·by_cases hb:b=a
   ·exact hb
   ·exact absurd (Zaf hb) z
theorem Ml{l:PySem.W.OpenLaw}{n k:Nat}{q:Program}{loose:List Str}{XP:(Str->Option Value)->Heap->Prop}{YP:World->Heap->Prop}{d:DefRec}{K:Params->PySem.W.Frag}{CX:World->CXT}{sp:World->Sp}{x:Str}
  (hn:l.most=some n)(hn2:n<=sizeLine)(hdf:d.params.defaults=[])(hr:cB k callerA)
  (hY:∀ (w:World) (h:Heap),YP w h->(K w.params).In h)
  (F:∀ (w:World) (mg:Str->Option Value) (fa:Addr) (h:Heap),(K w.params).In h->h.Ns mainGlobals mg->mg d.name=some (.ref fa) ->
   ∃ fd:FuncData,(∀ (s:Shared) (u:Value),BindsTo s fd ⟨[u],[]⟩ [(x,u)]) /\
    ∀ base:Heap,(K w.params).In base->base.Ns mainGlobals mg->jg l.prog w (K w.params) mg base (CX w) k fa fd [x] (sp w))
  (hsp:∀ (w:World) (H:Hp) (a:Addr) (ns:List Int),ns.length<=n->Only H->SqL (K w.params) H a (ns.map V.int)->sp w [.ref a] H (λv _=>v=.bl true) λ_ _ _=>False)
  (hCX:∀ (w:World) (H:Hp) (s:Shared) (e:Value) (s':Shared),CX w [] H s (λ_ _ _=>False) e s'->False) :
  PySem.W.WalkO q loose XP YP l.row.toRowW d [] (λf vs=>PySem.call f vs):=by
 refine Att.yS hn hdf λw s₀ s₁ mg mb fa o pm cd doc a vs ns G Y ho hd hcd hmg hobj hints hlen hg=>?_;have KX:=hY w _ Y;obtain⟨fd,hb,hF⟩:=F w mg fa _ KX G.T.g hmg;exact Jp KX G.T.g G.T.b G.T.builtins G.T.nolimit hg hobj hints (Zau hlen hn2) hr hF hb (λH hO hS=>hsp w H a ns hlen hO hS) λH e s'=>hCX w H s₁ e s'
def inClass(s:Stmt)(j:Nat):Stmt:=match s with
 |.ClassDef _ _ _ body _ _ _ _ _ _ _=>body.getD j (.Pass ⟨0,0,0,0⟩)
 |_=>.Pass ⟨0,0,0,0⟩
def bh(s:Stmt):Arguments:=match s with
 |.FunctionDef _ a _ _ _ _ _ _ _ _=>a
 |_=>{ posonlyargs:=[],args:=[],vararg:=none,kwonlyargs:=[],kw_defaults:=[],kwarg:=none,defaults:=[] }
def aW(s:Stmt):List Stmt:=match s with
 |.FunctionDef _ _ b _ _ _ _ _ _ _=>b
 |_=>[]
def aB(s:Stmt):Scope:=match s with
 |.FunctionDef _ _ _ _ _ _ sc _ _ _=>sc
 |_=>{ kind:=.function,names:=[],isGenerator:=false,isCoroutine:=false }
noncomputable abbrev CX0:CXT:=λ_ _ _ _ _ _=>False
noncomputable abbrev E0:XK:=λ_ _ _=>False
theorem O3{X:Cx}:gQ CX0 X E0:=λ_ _ _ _ _ _ _ h=>h.elim
structure Fun(K:PySem.W.Frag)(x qual:Str)(st:Stmt)(f:Addr)(fd:FuncData):Prop where
 ex:∃ (oc:Value) (od:Option Addr) (kV doc pm:Value) (an:Option Addr) (cdv ct:Value) (osl:Array (Option Value)),
  fd=fnOf x qual (bh st) (aW st) (aB st) .none kV doc pm an cdv ct/\K.lookup f=some ⟨oc,od,.func fd,osl⟩/\codeIn K cdv qual=true
 kp:keepIn K (.ref f)=true
section
variable{P:Program}{w:World}{K:PySem.W.Frag}{mg:Str->Option Value}{base:Heap}
theorem Fun.ok{x qual:Str}{st:Stmt}{f:Addr}{fd:FuncData}{N ps:List Str}{k:Nat}{sp:Sp}(F:Fun K x qual st f fd)(S:bf N ps (aB st))(len:∀ vs H Q E,sp vs H Q E->vs.length=ps.length)
  (hbody:∀ (cdv:Value) (A:Around) (outer:List Env) (s:Shared) (H:Hp) (vs:List V) (Q:VK) (E:XK),cB k (A.deeper (envOfC qual (aB st) s.heap.objs.size f cdv))->sp vs H Q E ->
   ∃ t,PSs (qZ CX0 P w K mg base N qual (aB st) f cdv A outer s H E).nox (aW st) t/\t { nx:=λ_ H'=>Q .non H',rt:=Q } (start N vs) H):jg P w K mg base CX0 (k+1) f fd ps sp:=by
 obtain⟨oc,od,kV,doc,pm,an,cdv,ct,osl,rfl,lk,hcd⟩:=F.ex;refine Jj lk hcd S len λA outer s H vs Q E hr hsp=>?_;obtain⟨t,h,q⟩:=hbody cdv A outer s H vs Q E hr hsp;exact⟨t,h.nox,q⟩
theorem Fun.binds{x qual:Str}{st:Stmt}{f:Addr}{fd:FuncData}{ps:List Str}(F:Fun K x qual st f fd)
  (h:∀ (kV doc pm:Value) (an:Option Addr) (cdv ct:Value) (us:List Value),us.length=ps.length->bindArgs (fnOf x qual (bh st) (aW st) (aB st) .none kV doc pm an cdv ct) ⟨us,[]⟩=pure (ps.zip us)):Binds K fd ps []:=by
 obtain⟨oc,od,kV,doc,pm,an,cdv,ct,osl,rfl,lk,hcd⟩:=F.ex;exact .all (h kV doc pm an cdv ct)
theorem bN{x qual:Str}{st:Stmt}{f:Addr}{oc:Value}{od an:Option Addr}{osl:Array (Option Value)}{kV doc pm cdv ct:Value}(l:K.lookup f=some ⟨oc,od,.func (fnOf x qual (bh st) (aW st) (aB st) .none kV doc pm an cdv ct),osl⟩)
  (c:codeIn K cdv qual=true)(k:keepIn K (.ref f)=true):Fun K x qual st f (fnOf x qual (bh st) (aW st) (aB st) .none kV doc pm an cdv ct):=⟨⟨oc,od,kV,doc,pm,an,cdv,ct,osl,rfl,l,c⟩,k⟩
end
theorem sU{A:Around}{k:Nat}(hr:cB k A):A.units+1<cLine:=ZbJ (Nat.add_le_add_left (by decide:1<=64) _) hr.units
theorem bJ{n:Nat}(h:n<=1000):n<sizeLine:=ZbJ h (by decide)
section
variable{X:Cx}
theorem pv(i:Nat){x:Str}{pos:Pos}(hN:X.N[i]?=some x:=by rfl)(hv:Vis X.env.scope x:=by first|exact Or.inl rfl|exact Or.inr (Or.inl rfl)|exact Or.inr (Or.inr rfl))(hd:(x==("__debug__":Str))=false:=by decide)
  (hcd:(x==("__classdict__":Str))=false:=by decide):PE X (.Name x pos) (jx i):=Bp hN hv hd hcd
end
theorem sV{c A B:Prop}[Decidable c](h1:c->A)(h2:¬c->B):if c then A else B:=by
 by_cases h:c
 ·rw[Zae h];exact h1 h
 ·rw[Zaf h];exact h2 h
def aL(H H':Hp):Prop:=∀ b o,H b=some o->H' b=some o
theorem aL.refl(H:Hp):aL H H:=λ_ _ h=>h
theorem aL.trans{H H1 H2:Hp}(a:aL H H1)(b:aL H1 H2):aL H H2:=λc o h=>b c o (a c o h)
theorem aL.free{H H':Hp}(e:aL H H'){l:Addr}(h:H' l=Option.none):H l=Option.none:=by
 cases q:H l with
 |none=>rfl
 |some o=>
  rw[e l o q] at h;cases h
theorem aL.seq{K:PySem.W.Frag}{H H':Hp}{a:Addr}{xs:List V}(e:aL H H')(h:SqL K H a xs):SqL K H' a xs:=by
 rcases h with(h|⟨o,h⟩)|h
 ·exact .inl (.inl (e _ _ h))
 ·exact .inl (.inr ⟨o,e _ _ h⟩)
 ·exact .inr h
end L2
set_option maxHeartbeats 4000000
namespace Mth
def sub(l m:List Bool):Bool:=(List.range l.length).all λi=>!l.getD i false||m.getD i false
def pl(W:Nat)(c:Int×Int):Nat:=c.2.toNat*W+c.1.toNat
def cellOf(W:Nat)(i:Nat):Int×Int:=(((i%W:Nat):Int),((i/W:Nat):Int))
def uZ(W:Nat)(ps:List (Int×Int)):Nat:=ps.foldl (λn c=>n ||| 2^pl W c) 0
theorem vJ(W:Nat)(ps:List (Int×Int))(c:Int×Int):uZ W (ps++[c])=uZ W ps ||| 2^pl W c:=by
 unfold uZ;rw[List.foldl_append];rfl
end Mth
namespace L2
open PySem PySem.Spec PyProof.Rows
theorem n6{env:Env}:∀ (names:List (Str×NameKind)) (cs:List (Str×Addr)),(∀ x∈names,x.2=.free->∃ c,env.cells.lookup x.1=some c) ->
  (∀ x c,cs.lookup x=some c->env.cells.lookup x=some c) ->
  ∃ cl,(forIn names cs λx s=>if(x.snd==NameKind.free)=true then do let d <-cellOf env x.fst;pure (ForInStep.yield ((x.fst,d)::s)) else pure (ForInStep.yield s):Sem _)=pure cl /\
   (∀ x c,cl.lookup x=some c->env.cells.lookup x=some c)/\(∀ x c,cs.lookup x=some c->cl.lookup x=some c)/\∀ x,(x,NameKind.free)∈names->∃ c,cl.lookup x=some c
 |[],cs,_,h2=>⟨cs,rfl,h2,λ_ _ e=>e,λ_ h=>nomatch h⟩
 |(n,k)::r,cs,h1,h2=>by
  rw[List.forIn_cons];by_cases hk:k=.free
  ·subst hk;obtain⟨c,hc⟩:=h1 (n,.free) ZaO rfl;have ec:cellOf env n=pure c:=by unfold cellOf;simp only[hc]
   obtain⟨cl,e,p1,p2,p3⟩:=n6 r ((n,c)::cs) (λx hx=>h1 x (Zat _ hx)) (λx d e=>by
    rw[Zbg] at e;by_cases hx:x=n
    ·subst hx;simp at e;subst e;exact hc
    ·have hb:(x==n)=false:=beq_eq_false_iff_ne.mpr hx;rw[hb] at e;exact h2 x d e)
   refine⟨cl,?_,p1,λx d e'=>?_,λx hx=>?_⟩
   ·simp only[beq_self_eq_true,ZaU,ec];exact e
   ·by_cases hx:x=n
    ·subst hx;have:=h2 _ _ e';rw[hc] at this;cases this;exact p2 x c (by simp)
    ·have hb:(x==n)=false:=beq_eq_false_iff_ne.mpr hx;exact p2 x d (by rw[Zbg,hb];exact e')
   ·rcases ZaB.mp hx with e|hx
    ·cases e;exact⟨c,p2 n c (by simp)⟩
    ·exact p3 x hx
  ·obtain⟨cl,e,p1,p2,p3⟩:=n6 r cs (λx hx=>h1 x (Zat _ hx)) h2;have hb:(k==NameKind.free)=false:=by simpa using hk
   refine⟨cl,?_,p1,p2,λx hx=>?_⟩
   ·simp only[hb,Zbl,ZaI];exact e
   ·rcases ZaB.mp hx with e|hx
    ·cases e;exact absurd rfl hk
    ·exact p3 x hx
theorem BZ{scope:Scope}{env:Env}(h:∀ x∈scope.names,x.2=.free->∃ c,env.cells.lookup x.1=some c):∃ cl,closureFor scope env=pure cl /\
  (∀ x c,cl.lookup x=some c->env.cells.lookup x=some c)/\∀ x,(x,NameKind.free)∈scope.names->∃ c,cl.lookup x=some c:=by
 obtain⟨cl,e,p1,_,p3⟩:=n6 scope.names [] h (λ_ _ e=>nomatch e);refine⟨cl,?_,p1,p3⟩;simp only[closureFor];rw[e];rfl
noncomputable abbrev kE(env:Env)(x:Str×NameKind):Str×NameKind:=if(x.2==NameKind.free&&env.scope.kind==.function&&env.kindOf x.1==some .cell)=true then(x.1,NameKind.cell) else x
theorem GF(env:Env)(x:Str×NameKind):(kE env x).1=x.1:=by unfold kE;split<;>rfl
theorem oN{env:Env}:∀ (names:List (Str×NameKind)) (x:Str),(names.map (kE env)).lookup x=(names.lookup x).map λk=>(kE env (x,k)).2
 |[],x=>rfl
 |(n,k)::r,x=>by
  rw[ZaA];have e1:kE env (n,k)=(n,(kE env (n,k)).2):=by
   have:=GF env (n,k);cases h:kE env (n,k) with
   |mk a b=>rw[h] at this;cases this;rfl
  rw[e1,Zbg,Zbg,oN r x];by_cases hx:x=n
  ·subst hx;simp
  ·have hb:(x==n)=false:=beq_eq_false_iff_ne.mpr hx;rw[hb]
theorem u0(scope:Scope)(env:Env):(relabel scope env).names=scope.names.map (kE env):=by
 unfold relabel;show List.map _ _=_
 refine ZbC λx _=>?_;obtain⟨n,k⟩:=x;rfl
theorem gU(scope:Scope)(env:Env)(x:Str):(relabel scope env).names.lookup x=(scope.names.lookup x).map λk=>(kE env (x,k)).2:=by
 rw[u0,oN]
theorem gD{scope:Scope}{env:Env}{x:Str}{k:NameKind}(hk:k≠.free)(h:scope.names.lookup x=some k):(relabel scope env).names.lookup x=some k:=by
 rw[gU,h];simp[kE,hk]
theorem oO{scope:Scope}{env:Env}{x:Str}(h:scope.names.lookup x=some .free):(relabel scope env).names.lookup x=some .cell\/(relabel scope env).names.lookup x=some .free:=by
 rw[gU,h];simp only[Zbm,kE];split
 ·exact .inl rfl
 ·exact .inr rfl
theorem Cd{scope:Scope}{env:Env}{x:Str}(h0:scope.names.lookup x≠some .cell)(h:(relabel scope env).names.lookup x=some .cell\/(relabel scope env).names.lookup x=some .free):scope.names.lookup x=some .free:=by
 rw[gU] at h;cases e:scope.names.lookup x with
 |none=>rw[e] at h;simp at h
 |some k=>
  by_cases hk:k=.free
  ·rw[hk]
  ·rw[e] at h;simp[kE,hk] at h;subst h;exact absurd e h0
theorem lookup_mem{β:Type}:∀ {l:List (Str×β)}{x:Str}{v:β},l.lookup x=some v->(x,v)∈l
 |[],_,_,h=>nomatch h
 |(n,k)::r,x,v,h=>by
  rw[Zbg] at h;by_cases hx:x=n
  ·subst hx;simp at h;subst h;exact ZaO
  ·have hb:(x==n)=false:=beq_eq_false_iff_ne.mpr hx;rw[hb] at h;exact Zat _ (lookup_mem h)
noncomputable abbrev Cx.comp(X:Cx)(N:List Str)(scope:Scope)(cl:List (Str×Addr))(C:Addr)(s2:Shared)(H2:Hp)(fp:List Addr):Cx where
 prog:=X.prog
 w:=X.w
 K:=X.K
 mg:=X.mg
 base:=X.base
 A:=X.A
 N:=N
 s₀:=s2
 H₀:=H2
 env:=compEnvC scope cl C X.env
 outer:=X.stack
 stack:=X.stack
 ex:=fp
 fn:=λ_=>false
 calm:=X.calm
 pn:=[]
 xe:=λ_ _=>False
def wU(XN N:List Str)(xs scope:Scope)(fr:List (Option Nat)):Bool:=
 decide (fr.length=N.length)&&(scope.kind==.function)&&(scope.names.all λx=>!(x.2==.cell))&&(scope.names.all λx=>!(x.2==.local)||scope.names.lookup x.1==some .local) &&
 (scope.names.all λx=>!(x.2==.free)||(xs.names.lookup x.1==some .cell||xs.names.lookup x.1==some .free)) &&
 (List.range N.length).all λj=>match fr[j]?,N[j]? with
  |some (some i),some x=>decide (XN[i]?=some x)&&(scope.names.lookup x==some .free)
  |_,_=>true
theorem yU{XN N:List Str}{xs scope:Scope}{fr:List (Option Nat)}(h:wU XN N xs scope fr=true) :
  fr.length=N.length/\scope.kind=.function/\(∀ x∈scope.names,x.2≠.cell)/\(∀ x∈scope.names,x.2=.local->scope.names.lookup x.1=some .local) /\
  (∀ x∈scope.names,x.2=.free->xs.names.lookup x.1=some .cell\/xs.names.lookup x.1=some .free) /\
  ∀ (j i:Nat) (x:Str),fr[j]?=some (some i)->N[j]?=some x->XN[i]?=some x/\scope.names.lookup x=some .free:=by
 unfold wU at h;simp only[ZaZ,decide_eq_true_eq,Zay] at h;obtain⟨⟨⟨⟨⟨h1,h2⟩,h3⟩,h4⟩,h5⟩,h6⟩:=h;refine⟨h1,by simpa using h2,λx hx=>by simpa using h3 x hx,λx hx e=>?_,λx hx e=>?_,λj i x e1 e2=>?_⟩
 ·have:=h4 x hx;simp[e] at this;exact this
 ·have:=h5 x hx;simp[e] at this;exact this
 ·have hj:j<N.length:=(Zar.mp e2).1;have:=h6 j (Zbf.mpr hj);rw[e1,e2] at this;simpa using this
def frσ(fr:List (Option Nat))(σ:St):St:=fr.map λo=>match o with
 |some i=>match σ[i]? with
  |some v=>v
  |none=>none
 |none=>none
theorem Mm{fr:List (Option Nat)}{σ:St}{j:Nat}{v:V}(h:(frσ fr σ)[j]?=some (some v)):∃ i,fr[j]?=some (some i)/\σ[i]?=some (some v):=by
 unfold frσ at h;rw[Zai] at h;cases e:fr[j]? with
 |none=>rw[e] at h;cases h
 |some o=>
  rw[e] at h;cases o with
  |none=>cases h
  |some i=>
   simp only[Zbm] at h;cases e2:σ[i]? with
   |none=>rw[e2] at h;cases h
   |some w=>rw[e2] at h;exact⟨i,rfl,by simpa[e2] using h⟩
def QL(X:Cx)(ifs:List Expr)(t:TT):Prop:=
 ∀ (pins:List (Addr×Obj)) (s:Shared) (σ:St) (H:Hp) (Q:Bool->Hp->Prop),Inv X pins σ H s->t σ H Q ->
  wpAny (model X.prog X.w) X.A (forIn ifs true λc r=>if r=true then do let ok <-isTrue c X.env (eval c X.env);pure (ForInStep.yield ok) else pure (ForInStep.yield r)) (TP X pins σ Q) X.xe s
def SQ:TT:=λ_ H Q=>Q true H
theorem sW{X:Cx}:QL X [] SQ:=λ_ _ _ H _ I h=>wpAny_tests_nil ⟨H,I,h⟩
def SX(D:Addr)(tc:TT)(te:TE):TS:=λE σ H=>tc σ H λb H1=>if b=true then te σ H1 λv H2=>∃ ys,H2 D=some (.lst ys)/\ys.length<sizeLine/\E.nx σ (upd H2 D (.lst (ys++[v]))) else E.nx σ H1
def endC(Q:VK)(D:Addr):Ends:={ nx:=λ_ H=>Q (.ref D) H,rt:=λ_ _=>False }
def Ef(wi:TI)(fr:List (Option Nat))(g:TG)(tc:TT)(te:TE):TE:=λσ H Q=>wi σ H λJ H1=>∀ D,H1 D=none->∃ W:Nat->Nat->St->Hp->Prop,(∃ m,W 0 m (frσ fr σ) (upd H1 D (.lst [])))/\∀ i m σ H,W i m σ H ->
 (J.stop i H/\(endC Q D).nx σ H)\/(J.go i H/\∃ N:St->Hp->Prop,(∀ σ' H',N σ' H'->∃ m',m'<m/\W (i+1) m' σ' H')/\∀ x H',J.yld i H x H'->g x σ H' λσ2 H2=>SX D tc te { endC Q D with nx:=N,ct:=N,bk:=(endC Q D).nx } σ2 H2)
section
variable{prog:Program}{w:World}{A:Around}{R:Result->Shared->Prop}{s:Shared}
theorem GJ{elt target iter:Expr}{ifs:List Expr}{scope:Scope}{pos:Pos}{it acc:Value}{env:Env}(I:Nat->Shared->Prop)
  (turn:∀ n s,I n s->wpAny (model prog w) A (pyNext it) (λr s₁=>match r with
   |none=>R (.ok .next) s₁
   |some v=>wpAny (model prog w) A (letOwnedTupleGo target it v) (λ_ s₁=>wpAny (model prog w) A (assign target env v) (λ_ s₂=>
     wpAny (model prog w) A (forIn ifs true λc r=>if r=true then do let ok <-isTrue c env (eval c env);pure (ForInStep.yield ok) else pure (ForInStep.yield r)) (λok s₃=>
      if ok=true then wpAny (model prog w) A (eval elt env) (λx s₄=>
       wpAny (model prog w) A (call (.builtin "list.append") [acc,x]) (λ_ s₅=>∃ m,m<n/\I m s₅) (notedBy (model prog w) A env λe s'=>R (.error e) s') s₄) (notedBy (model prog w) A env λe s'=>R (.error e) s') s₃
      else ∃ m,m<n/\I m s₃) (notedBy (model prog w) A env λe s'=>R (.error e) s') s₂) (notedBy (model prog w) A env λe s'=>R (.error e) s') s₁) (notedBy (model prog w) A env λe s'=>R (.error e) s') s₁) (notedBy (model prog w) A env λe s'=>R (.error e) s') s)
  (n:Nat)(h:I n s) :
  codeAny (model prog w) A (.compLoop (.ListComp elt [⟨target,iter,ifs,0⟩] scope pos) 0 it acc env) R s:=by
 refine codeAny_loop rfl I (λn s hI=>?_) n h;show wpAny _ A ((compTurn (.ListComp elt [⟨target,iter,ifs,0⟩] scope pos) 0 it acc env).onRaise (λx=>do noteFrame x env;theTreesLotGoes x)) _ _ s
 refine wpAny_noted ?_;rw[compTurn_list];refine Zab (wpAny_standAt (Zab (ZaG (turn n s hI) (λr s₁ h₁=>?_) λ_ _ h'=>h')));cases r with
 |none=>exact Zal h₁
 |some v=>
  refine Zab (ZaG h₁ (λ_ s₁' h₁'=>?_) λ_ _ h'=>h');refine Zab (ZaG h₁' (λ_ s₂ h₂=>Zab (ZaG h₂ (λok s₃ h₃=>?_) λ_ _ h'=>h')) λ_ _ h'=>h');cases ok with
  |false=>exact Zal ⟨rfl,h₃⟩
  |true=>
   exact Zab (Zab (ZaG h₃ (λx s₄ h₄=>Zab (ZaG h₄ (λ_ s₅ h₅=>Zal (Zal ⟨rfl,h₅⟩)) λ_ _ h'=>h')) λ_ _ h'=>h'))
end
structure Apart(X:Cx)(pins:List (Addr×Obj))(C:Addr):Prop where
 ne:C≠X.env.locals
 ab:X.s₀.heap.objs.size<=C
 cells:∀ x c,X.env.cells.lookup x=some c->c≠C
 pins:∀ p∈X.pn++pins,p.1≠C
section
variable{X:Cx}{elt tg iter:Expr}{ifs:List Expr}{scope:Scope}{pos pos':Pos}{wi:TI}{g:TG}{tc:TT}{te:TE}{pins:List (Addr×Obj)}{σ:St}{H:Hp}{s:Shared}
theorem Jq(N:List Str)(fr:List (Option Nat))(hc:X.calm=true)(hi:PI X tg iter wi)(hg:∀ cl C s2 H2 fp,PG (X.comp N scope cl C s2 H2 fp) tg g)
  (ht:∀ cl C s2 H2 fp,QL (X.comp N scope cl C s2 H2 fp) ifs tc)(he:∀ cl C s2 H2 fp,PE (X.comp N scope cl C s2 H2 fp) elt te)
  (ok:wU X.N N X.env.scope scope fr=true)(hs:∀ x,foldedSetIterable iter X.env x=pure x){Q:VK}{Q':Value->Shared->Prop}{use:Option (Value->Sem Unit)}
  (I:Inv X pins σ H s)(h:Ef wi fr g tc te σ H Q)
  (fin:∀ D C s' H',Inv X pins σ H' s'->H' C=none->Apart X pins C->(∃ m,s'.heap.Ns C m)->Q (.ref D) H'->compPost (model X.prog X.w) X.A X.xe use Q' (.ref D) C (.ok .next) s') :
  wpAny (model X.prog X.w) X.A (comprehension (.ListComp elt [⟨tg,iter,ifs,0⟩] scope pos) scope X.env pos' (newList []) false (eval iter X.env) use) Q' X.xe s:=by
 obtain⟨o1,o2,o3,o4,o5,o6⟩:=yU ok;obtain⟨cl,hclos,c1,c2⟩:=BZ (scope:=scope) (env:=X.env) (λx hx hf=>I.ok.has x.1 (o5 x hx hf));refine wpAny_comprehension_free (use:=use) rfl hs hclos o2 o4 (thn (hi pins s σ H _ I h) λxv s1 h1=>thn h1 λitv s2 h2=>?_);obtain⟨it,fp,tn,J,H2,rfl,I2,T,st2,f2,hW⟩:=h2;refine wpAny_newObj_type (wpAny_newFunctionEnv o3 (by intro y hy;simp at hy) (λh₁ hns₁ hsb₁=>?_) o2)
 dsimp only at hns₁ hsb₁ ⊢;generalize hHH:s2.heap.push { cls:=.type "list",dict:=none,data:=.seq ([]:List Value).toArray }=HH at hns₁ hsb₁ ⊢
 have hC:HH.objs.size=s2.heap.objs.size+1:=by rw[<-hHH,Zbr]
 have hDC:s2.heap.objs.size≠HH.objs.size:=by rw[hC];exact ZaC (ZbR _)
 have hCle:s2.heap.objs.size<=HH.objs.size:=by rw[hC];exact ZbQ _
 have neC:∀ b,b<s2.heap.objs.size->b≠HH.objs.size:=λb hb=>by rw[hC];exact ZaC (Nat.lt_succ_of_lt hb)
 have old:∀ b o,s2.heap.get? b=some o->h₁.get? b=some o:=λb o e=>hsb₁.extBut b o (neC b (Zaj e)) (Zad _ (hHH▸Zad _ e));have atD:h₁.get? s2.heap.objs.size=some { cls:=.type "list",data:=.seq ([]:List Value).toArray }:=hsb₁.extBut _ _ hDC (Zad _ (hHH▸Zas _ rfl));have ltf:∀ b∈fp,b<s2.heap.objs.size:=λb hb=>let⟨o,e,_⟩:=T.obj _ _ st2 b hb;Zaj e;have ltc:∀ x c,X.env.cells.lookup x=some c->c<s2.heap.objs.size:=λx c e=>let⟨v,q⟩:=I2.cell x c e;q.lt;have ltp:∀ p∈X.pn++pins,p.1<s2.heap.objs.size:=λp hp=>Zaj (I2.pin p hp).1;have fresh:H2 s2.heap.objs.size=none:=I2.hok.fresh (Zak _);have freshC:H2 HH.objs.size=none:=I2.hok.fresh hCle;have ap:Apart X pins HH.objs.size:=⟨ZbV (Zah I2.lt hCle),Zau I2.sz hCle,λx c e=>neC c (ltc x c e),λp hp=>neC _ (ltp p hp)⟩;have okY:(X.comp N scope cl HH.objs.size s2 H2 fp).Ok:={
  mod:=I2.ok.mod
  kind:=o2
  glob:=I2.ok.glob
  blt:=I2.ok.blt
  above:=hCle
  inj:=λx y c a b=>I2.ok.inj x y c (c1 _ _ a) (c1 _ _ b)
  has:=λx hx=>c2 x (lookup_mem (Cd (λz=>o3 _ (lookup_mem z) rfl) hx))
  cab:=λx c hx _=>by cases hx
  hd:=I2.ok.hd
  frames:=I2.ok.frames
  stk:=.inl rfl
  exf:=λb hb=>⟨neC b (ltf b hb),λx c e=>(f2 b hb).2.2.2.2.1 x c (c1 x c e)⟩
  bs:=I2.bs
  bsz:=Zau I2.ok.bsz I2.sz
  noex:=λb o e hb=>by
   rcases(f2 b hb).2.2.2.1 with z|z
   ·exact I2.ok.noex b o e z
   ·exact absurd (Zah (Zaj e) (Zau I2.ok.bsz z)) (ZaV _)
  exfs:=λb hb hf=>by
   rcases ZaB.mp (I2.wB b hf) with z|z
   ·exact(f2 b hb).2.1 z
   ·exact(f2 b hb).2.2.1 z
  nZ:=I2.stack
  frf:=I2.wC }
 have IY:Inv (X.comp N scope cl HH.objs.size s2 H2 fp) [] (frσ fr σ) (upd H2 s2.heap.objs.size (.lst [])) { s2 with heap:=h₁,toks:=s2.toks+([]:List (Str×Value)).length }:={
  ok:=okY
  os:=rfl
  bare:=I2.bare
  base:=Un.laid old (Zak _) fresh
  loc:=by
   refine⟨_,hns₁,λj x v e1 e2 e3=>?_⟩;obtain⟨i,f1,f2'⟩:=Mm e2;obtain⟨g1,g2⟩:=o6 j i x f1 e1;have k2:=o5 _ (lookup_mem g2) rfl;obtain⟨m2,hm2,l2⟩:=I2.loc;obtain⟨u,ru,lk⟩:=l2 i x v g1 f2' (.inr k2);refine⟨u,ru,.inr ⟨oO g2,?_⟩⟩;obtain⟨c,hcl⟩:=c2 x (lookup_mem g2);refine⟨c,hcl,?_⟩;rcases lk with⟨k,_⟩|⟨_,c',e',z⟩
   ·rcases k2 with k2|k2
    ·rw[show X.env.kindOf x=X.env.scope.names.lookup x from rfl,k2] at k;cases k
    ·rw[show X.env.kindOf x=X.env.scope.names.lookup x from rfl,k2] at k;cases k
   ·rw[c1 x c hcl] at e';cases e';obtain⟨oc,hoc,hd⟩:=z;exact⟨oc,old c oc hoc,hd⟩
  cell:=λx c e=>by
   obtain⟨v,oc,hoc,hd⟩:=I2.cell x c (c1 x c e);exact⟨v,oc,old c oc hoc,hd⟩
  free:=(aM (ZaS hDC)).trans freshC
  freeC:=λx c e=>by
   rw[aM (ZaC (ltc x c (c1 x c e)))];exact I2.freeC x c (c1 x c e)
  pin:=λp hp=>by cases hp
  hok:=I2.hok.laid old (Zak _) ⟨Zbp _,[],0,.nil,atD⟩
  len:=by unfold frσ;rw[Zam];exact o1 }
 have stat:∀ {H':Hp}{pp:List (Addr×Obj)},pp=[]->(∀ b∈fp,H' b=none)->∀ b∈fp,yO (X.comp N scope cl HH.objs.size s2 H2 fp) pp H' b:=λ{H' pp} hp hn b hb=>by
  subst hp;exact⟨hn b hb,neC b (ltf b hb),λz=>okY.exfs b hb z,.inl hb,λx c e=>(f2 b hb).2.2.2.2.1 x c (c1 x c e),λp hp=>by cases hp⟩
 have back:∀ {σ':St}{H':Hp}{s':Shared},Inv (X.comp N scope cl HH.objs.size s2 H2 fp) [] σ' H' s'->Inv X pins σ H' s':=λ{σ' H' s'} I'=>
  I2.call' (ch:=fp) I'.os I'.base I'.hok I'.bare λb hb=>⟨(f2 b hb).2.2.2.1,(f2 b hb).2.1,(f2 b hb).2.2.2.2.1,(f2 b hb).2.2.2.2.2⟩
 have loop:∀ s₃:Shared,s₃={ s2 with heap:=h₁,toks:=s2.toks+([]:List (Str×Value)).length } ->
   codeAny (model X.prog X.w) X.A (.compLoop (.ListComp elt [⟨tg,iter,ifs,0⟩] scope pos) 0 (.ref it) (.ref s2.heap.objs.size) (compEnvC scope cl HH.objs.size X.env))
    (compPost (model X.prog X.w) X.A X.xe use Q' (.ref s2.heap.objs.size) HH.objs.size) s₃:=by
  rintro s₃ rfl;obtain⟨W,⟨m0,w0⟩,turn⟩:=hW s2.heap.objs.size fresh;refine GJ (λn s'=>∃ i σ' H',Inv (X.comp N scope cl HH.objs.size s2 H2 fp) [] σ' H' s'/\tn i s'.heap/\(∀ b∈fp,H' b=none)/\W i n σ' H') ?_ m0
   ⟨0,_,_,IY,T.keep _ _ _ st2 λb _ o e=>old b o e,λb hb=>by rw[aM (ZaC (ltf b hb))];exact(f2 b hb).1,w0⟩
  rintro n s3 ⟨i,σ3,H3,I3,st3,fr3,w3⟩;rcases turn i n σ3 H3 w3 with⟨stop,q⟩|⟨go,Nx,hN,step⟩
  ·refine thn (T.done (X.comp N scope cl HH.objs.size s2 H2 fp) rfl rfl rfl hc i [] s3 σ3 H3 _ I3 (stat rfl fr3) st3 stop) ?_;rintro r s4 ⟨hr,I4⟩;subst hr;obtain⟨m4,hm4,_⟩:=I4.loc;exact fin _ _ s4 H3 (back I4) I4.free ap ⟨m4,hm4⟩ q
  ·refine thn (T.item (X.comp N scope cl HH.objs.size s2 H2 fp) rfl rfl rfl hc i [] s3 σ3 H3 _ I3 (stat rfl fr3) st3 go) ?_;rintro r s4 ⟨u,hr,h4⟩;subst hr;refine thn h4 ?_;rintro _ s5 ⟨x,H5,I5,r5,y5,st5,fr5⟩;have I5':=I5.pinned (stat rfl fr5) (T.obj _ _ st5);refine ZaG (hg cl HH.objs.size s2 H2 fp _ s5 σ3 H5 x u _ I5' r5 (step x H5 y5)) (?_) λ_ _ f=>f.elim;rintro _ s6 ⟨σ6,H6,I6,q6⟩;have again:∀ {s7:Shared}{σ7:St}{H7:Hp},Inv (X.comp N scope cl HH.objs.size s2 H2 fp) ([]++sI fp s5.heap) σ7 H7 s7->Nx σ7 H7 ->
     ∃ m,m<n/\∃ i σ' H',Inv (X.comp N scope cl HH.objs.size s2 H2 fp) [] σ' H' s7/\tn i s7.heap/\(∀ b∈fp,H' b=none)/\W i m σ' H':=λ{s7 σ7 H7} I7 n7=>by
    obtain⟨m',hm,w7⟩:=hN σ7 H7 n7;refine⟨m',hm,i+1,σ7,H7,I7.oH,T.keep _ _ _ st5 λb hb o e=>(I7.pin (b,o) (ZaD _ (ZaD _ (jL hb e)))).1,λb hb=>?_,w7⟩;obtain⟨o,e,d⟩:=T.obj _ _ st5 b hb;exact(I7.pin (b,o) (ZaD _ (ZaD _ (jL hb e)))).2.1
   refine ZaG (ht cl HH.objs.size s2 H2 fp _ s6 σ6 H6 _ I6 q6) (?_) λ_ _ f=>f.elim;rintro b s7 ⟨H7,I7,q7⟩;cases b with
   |false=>
    rw[Zaf (by decide)] at q7 ⊢
    exact again I7 q7
   |true=>
    rw[Zae rfl] at q7 ⊢;refine ZaG (he cl HH.objs.size s2 H2 fp _ s7 σ6 H7 _ I7 q7) (?_) λ_ _ f=>f.elim;rintro y s8 ⟨v,H8,I8,r8,q8⟩;obtain⟨ys,e8,l8,n8⟩:=q8;refine ZaG (mO (X:=X.comp N scope cl HH.objs.size s2 H2 fp) _ s8 σ6 H8 (.ref s2.heap.objs.size) [v] (.ref s2.heap.objs.size) [y] (λ_ H9=>Nx σ6 H9) I8 rfl (.cons r8 .nil) ⟨_,ys,v,rfl,rfl,e8,l8,n8⟩) (?_) λ_ _ f=>f.elim;rintro _ s9 ⟨_,H9,I9,_,n9⟩;exact again I9 n9
 exact codeAny_compStart_list (loop _ rfl) (T.self _ 0 _ _ _ (T.keep _ _ _ st2 λb _ o e=>old b o e) (loop _ rfl))
theorem oR(N:List Str)(fr:List (Option Nat))(hc:X.calm=true)(hi:PI X tg iter wi)(hg:∀ cl C s2 H2 fp,PG (X.comp N scope cl C s2 H2 fp) tg g)
  (ht:∀ cl C s2 H2 fp,QL (X.comp N scope cl C s2 H2 fp) ifs tc)(he:∀ cl C s2 H2 fp,PE (X.comp N scope cl C s2 H2 fp) elt te)
  (ok:wU X.N N X.env.scope scope fr=true:=by kernel_rfl)(hs:∀ x,foldedSetIterable iter X.env x=pure x:=by intro _;rfl) :
  PE X (.ListComp elt [⟨tg,iter,ifs,0⟩] scope pos) (Ef wi fr g tc te):=by
 intro pins s σ H Q I h;rw[eval_ListComp];refine Jq (use:=none) N fr hc hi hg ht he ok hs I h λD C s' H' I' hn ap hm q=>?_;obtain⟨m,hm⟩:=hm;exact⟨m,hm,λh' sb=>⟨.ref D,H',I'.turned (t':=s'.toks) (λb o hb e=>(sb.2 b hb).trans e) hn ap.ne (.inr ap.ab) ap.cells ap.pins,rfl,q⟩⟩
end
def Itf(f:Nat->V)(n:Nat):It:=⟨λi _=>i<n,λi H x H'=>H'=H/\x=f i,λi _=>i=n⟩
def sgn(z:Str)(i:Nat):V:=.str ⟨#[z.cps.getD i 0]⟩
theorem vK{P:Program}{w:World}{A:Around}(hh:A.handled=none)(it:Addr)(z:Str)(t:Tok):Walks P w A it [it] [it] z.cps.size (SignAt z) (λi h=>h.IsStrIter it (strIterType z) z t i):=by
 unfold strIterType;split
 ·exact Walks.strAscii hh it z t
 ·exact Walks.strWide hh it z t
theorem Jr{P:Program}{w:World}{K:PySem.W.Frag}{tg:Expr}(it:Addr)(z:Str)(t:Tok):Turn P w K tg (Itf (sgn z) z.cps.size) [it] it (λi h=>h.IsStrIter it (strIterType z) z t i) where
 mem:=by simp
 obj:=λi h st b hb=>by
  have e:b=it:=by simpa using hb
  subst e;obtain⟨o,e,c,d⟩:=st;exact⟨o,e,λv z=>by rw[d] at z;cases z⟩
 keep:=λi h h' st k=>let⟨o,e,r⟩:=st;⟨o,k it (by simp) o e,r⟩
 item:=by
  intro X hP hw hK hc i pins s σ H E I hf st hg;subst hP hw hK;obtain⟨f0,f1,f2,f3,f4,f5⟩:=hf it (by simp)
  have W:=vK (P:=X.prog) (w:=X.w) (I.ok.hd hc) it z t;refine W.item i s _ _ hg st λv h' tk hv st' kk=>?_;obtain⟨c,u,hx,rfl⟩:=hv;have I1:Inv X pins σ H { s with heap:=h',toks:=tk }:=I.turned (λb o hb e=>kk b o (by simpa using hb) e) f0 f1 f3 f4 f5
  obtain⟨o,e,cc,d⟩:=id st';have ec:z.cps.getD i 0=c:=by rw[ZbD,hx];rfl
  refine⟨_,rfl,DR (s:={ s with heap:=h',toks:=tk }) e cc d (by unfold strIterType;split<;>decide) ⟨sgn z i,H,I1,⟨u,?_⟩,⟨rfl,rfl⟩,st',λb hb=>(hf b hb).1⟩⟩
  rw[ec]
 done:=by
  intro X hP hw hK hc i pins s σ H E I hf st hg;subst hP hw hK;have hg':i=z.cps.size:=hg;subst hg';obtain⟨f0,f1,f2,f3,f4,f5⟩:=hf it (by simp)
  have W:=vK (P:=X.prog) (w:=X.w) (I.ok.hd hc) it z t;exact W.done s _ _ st λh' tk kk=>⟨rfl,I.turned (λb o hb e=>kk b o (by simpa using hb) e) f0 f1 f3 f4 f5⟩
 self:=λA i s Q E st h=>by
  unfold strIterType at st;split at st
  ·exact wpAny_pyIter_striter_ascii st h
  ·exact wpAny_pyIter_striter_wide st h
section
variable{X:Cx}{b c e:Expr}
theorem all_range(bs:List Bool):(List.range bs.length).all (λi=>bs.getD i true)=bs.all id:=by
 rw[ZbY];simp only[Zay,Zbf,id];constructor
 ·intro h x hx;obtain⟨i,hi,rfl⟩:=List.mem_iff_getElem.mp hx;have:=h i hi;simpa[ZaR,hi] using this
 ·intro h i hi;have:=h bs[i] (ZbT hi);simpa[ZaR,hi] using this
theorem yV(hc:X.calm=true):lq X (.builtin "all") (λxs H Q=>∃ (p:Addr) (bs:List Bool),xs=[.ref p]/\SqL X.K H p (bs.map V.bl)/\Q (.bl (bs.all id)) H):=by
 intro pins s σ H xs us Q I rv h;obtain⟨p,bs,rfl,hq,q⟩:=h;obtain⟨u,rfl,ru⟩:=rv.one;cases ru;obtain⟨its,r,pl,hz⟩:=I.list hq;have ln:=r.length;rw[Zam] at ln;refine call_all_walk (wpAny_pyIter_list pl.isList ?_);have hne:p≠s.heap.objs.size:=by
  obtain⟨o,n,e,_⟩:=pl;exact ZaC (Zaj e)
 refine⟨s.heap.objs.size,_,_,_,_,_,λi=>bs.getD i true,rfl,Walks.list (A:=X.A.in1) (I.ok.hd hc) s.heap.objs.size p hne its.toArray,⟨⟨_,Zas _ rfl,rfl,rfl⟩,pl.isList.at λo e=>Zad _ e⟩,?_,λh' tk kk=>?_⟩
 ·intro i v s' Q' E' hP hQ;have hP':its.toArray[i]?=some v:=hP;rw[List.getElem?_toArray] at hP';have hi:i<its.length:=(Zar.mp hP').1;have hb:(bs.map V.bl)[i]?=some (V.bl (bs.getD i true)):=by
   rw[Zai,Zav (by omega)]
   simp[ZaR,show i<bs.length by omega]
  obtain⟨u,hu,ru⟩:=r.get hb;rw[hP'] at hu;cases hu;cases ru;exact wpAny_truthy_bool hQ
 ·have en:(List.range its.toArray.size).all (λi=>bs.getD i true)=bs.all id:=by
   rw[List.size_toArray,<-ln];exact all_range bs
  rw[en];refine⟨.bl _,H,?_,rfl,q⟩;refine I.kept λb o e=>kk b o ?_ (Zad _ e);simp;exact ZaC (Zaj e)
theorem GK:OpR X (compareOp .LtE) (λx y H Q=>∃ i j,x=.str i/\y=.str j/\Q (.bl (!(decide (j.cps.toList<i.cps.toList)))) H):=by
 intro pins s σ H x y v u Q I rx ry h;obtain⟨i,j,rfl,rfl,q⟩:=h;obtain⟨t,rfl⟩:=rx;obtain⟨t',rfl⟩:=ry;exact PySem.P.le_str (wI I q rfl)
def S5:V->Option Int->Option Int->Hp->VK->Prop:=λx lo hi H Q=>∃ z,x=.str z/\z.length<=sizeLine/\Q (.str (Txt.slice z lo hi)) H
theorem Js:SlR X S5:=by
 intro pins s σ H x v vl vu lo hi sl Q I rx hs pl pu h;obtain⟨z,rfl,hz,q⟩:=h;obtain⟨t,rfl⟩:=rx;obtain⟨o,e,c,d⟩:=hs;refine⟨"str",_,F.slot_str_getitem.lookup,typeIs_str _ _ _,?_⟩;have fin:∀ t' k,EP X pins σ Q (.str (Txt.slice z lo hi) t') { s with toks:=k }:=λt' k=>⟨.str _,H,I.tok _,⟨t',rfl⟩,q⟩;cases pl with
 |none=>
  cases pu with
  |none=>exact wpAny_getItem_str_slice (l:=none) (u:=none) (st:=none) ⟨o,e,c,d⟩ rfl (post_val_or_str ⟨Zau (Txt.slice_le z _ _) hz,fin⟩)
  |int j u=>exact wpAny_getItem_str_slice (l:=none) (u:=some (j,u)) (st:=none) ⟨o,e,c,d⟩ rfl (post_val_or_str ⟨Zau (Txt.slice_le z _ _) hz,fin⟩)
 |int i t2=>
  cases pu with
  |none=>exact wpAny_getItem_str_slice (l:=some (i,t2)) (u:=none) (st:=none) ⟨o,e,c,d⟩ rfl (post_val_or_str ⟨Zau (Txt.slice_le z _ _) hz,fin⟩)
  |int j u=>exact wpAny_getItem_str_slice (l:=some (i,t2)) (u:=some (j,u)) (st:=none) ⟨o,e,c,d⟩ rfl (post_val_or_str ⟨Zau (Txt.slice_le z _ _) hz,fin⟩)
end
structure bw(K:PySem.W.Frag)(mg:Str->Option Value)(x:Str)(st:Stmt)(ps:List Str):Prop where
 ex:∃ (f:Addr) (fd:FuncData),mg x=some (.ref f)/\Fun K x x st f fd/\Binds K fd ps []
def FnAt(P:Program)(w:World)(K:PySem.W.Frag)(mg:Str->Option Value)(base:Heap)(x:Str)(k:Nat)(ps:List Str)(sp:Sp):Prop:=
 ∃ (f:Addr) (fd:FuncData),mg x=some (.ref f)/\keepIn K (.ref f)=true/\Binds K fd ps []/\jg P w K mg base CX0 k f fd ps sp
theorem bw.ok{P:Program}{w:World}{K:PySem.W.Frag}{mg:Str->Option Value}{base:Heap}{x:Str}{st:Stmt}{ps N:List Str}{k:Nat}{sp:Sp}(D:bw K mg x st ps)(S:bf N ps (aB st))(len:∀ vs H Q E,sp vs H Q E->vs.length=ps.length)
  (hbody:∀ (f:Addr) (cdv:Value) (A:Around) (outer:List Env) (s:Shared) (H:Hp) (vs:List V) (Q:VK) (E:XK),cB k (A.deeper (envOfC x (aB st) s.heap.objs.size f cdv))->sp vs H Q E ->
   ∃ t,PSs (qZ CX0 P w K mg base N x (aB st) f cdv A outer s H E).nox (aW st) t/\t { nx:=λ_ H'=>Q .non H',rt:=Q } (start N vs) H):FnAt P w K mg base x (k+1) ps sp:=by
 obtain⟨f,fd,e,F,b⟩:=D.ex;exact⟨f,fd,e,F.kp,b,F.ok S len λcdv A outer s H vs Q E=>hbody f cdv A outer s H vs Q E⟩
section
variable{X:Cx}{k:Nat}{ps:List Str}{sp:Sp}{x:Str}{p pos:Pos}{e:Expr}{es:List Expr}{t:TA}
theorem aQ(G:FnAt X.prog X.w X.K X.mg X.base x k ps sp)(hr:cB k X.A)(hg:Gl X x)(ha:PA X (e::es) t)(hdb:(x==("__debug__":Str))=false:=by decide)
  (he:starEach (e::es) X.env=(false,eval e X.env)::starEach es X.env:=by rfl)(hpl:(backTo pos (starEach es X.env)).any (·.1)=false:=by rfl):PE X (.Call (.Name x p) (e::es) [] pos) (nu sp [] E0 t):=by
 obtain⟨f,fd,e1,e2,e3,e4⟩:=G;exact DY e4 hr hg e1 e2 e3 .nil O3 ha hdb he hpl
end
section
variable{X:Cx}{N:List Str}{scope:Scope}{cl:List (Str×Addr)}{C:Addr}{s2:Shared}{H2:Hp}{fp:List Addr}{x:Str}{pos:Pos}
theorem pvl(i:Nat)(hN:N[i]?=some x:=by rfl)(hv:scope.names.lookup x=some .local:=by rfl)(hd:(x==("__debug__":Str))=false:=by decide)(hcd:(x==("__classdict__":Str))=false:=by decide) :
  PE (X.comp N scope cl C s2 H2 fp) (.Name x pos) (jx i):=Bp hN (.inl (gD (by decide) hv)) hd hcd
theorem pvf(i:Nat)(hN:N[i]?=some x:=by rfl)(hv:scope.names.lookup x=some .free:=by rfl)(hd:(x==("__debug__":Str))=false:=by decide)(hcd:(x==("__classdict__":Str))=false:=by decide) :
  PE (X.comp N scope cl C s2 H2 fp) (.Name x pos) (jx i):=Bp hN (.inr (oO hv)) hd hcd
theorem glc(h:scope.names.lookup x=some .globalImplicit):Gl (X.comp N scope cl C s2 H2 fp) x:=gD (by decide) h
theorem lu{i:Nat}(hN:N.Nodup)(hi:N[i]?=some x)(hx:scope.names.lookup x=some .local):PG (X.comp N scope cl C s2 H2 fp) (.Name x pos) (qC i):=
 fV hN hi (.inl (gD (by decide) hx)) (.inr (gD (by decide) hx))
end
section
variable{X:Cx}{x:Str}{i:Int}{z:Str}{pos:Pos}
theorem S6(hg:Gl X x)(h:∃ t,X.mg x=some (.int i t))(hd:(x==("__debug__":Str))=false:=by decide):PE X (.Name x pos) (tC (.int i)):=by
 obtain⟨t,h⟩:=h;exact wD hg h ⟨t,rfl⟩ hd
theorem vL(hg:Gl X x)(h:∃ t,X.mg x=some (.str z t))(hd:(x==("__debug__":Str))=false:=by decide):PE X (.Name x pos) (tC (.str z)):=by
 obtain⟨t,h⟩:=h;exact wD hg h ⟨t,rfl⟩ hd
theorem vM{n:String}(hg:Gl X x)(hm:X.mg x=none)(hv:bootBuiltins x=some (.type n))(hn:x≠"__name__":=by decide)(hd:(x==("__debug__":Str))=false:=by decide):PE X (.Name x pos) (tC (.ty n)):=
 Ls hg hm hv rfl hn hd
end
theorem tyL{K:PySem.W.Frag}{H:Hp}{p:Addr}{xs:List V}(h:H p=some (.lst xs)):tyV K "list" (.ref p) H:=.inl ⟨rfl,xs,SqL.of h⟩
theorem eZ{H:Hp}{p:Addr}{o:HO}(h:H p=none):aL H (upd H p o):=λb u e=>by rw[aM (dg e h)];exact e
theorem GP{H H1:Hp}{p:Addr}{o:HO}(h:H p=none)(s:aL H H1):aL H (upd H1 p o):=λb u e=>by rw[aM (dg e h)];exact s b u e
theorem aL.tup{K:PySem.W.Frag}{H H':Hp}{a:Addr}{xs:List V}(e:aL H H')(h:SqT K H a xs):SqT K H' a xs:=by
 rcases h with(h|⟨o,h⟩)|h
 ·exact .inl (.inl (e _ _ h))
 ·exact .inl (.inr ⟨o,e _ _ h⟩)
 ·exact .inr h
theorem sX{α:Type}{xs:List α}{i:Int}(h0:0<=i)(h:i<xs.length):∃ v,atI xs i=some v/\xs[i.toNat]?=some v:=by
 have hl:i.toNat<xs.length:=by lia
 refine⟨xs[i.toNat],?_,by simp[hl]⟩
 have:=oM (xs:=xs) (j:=i.toNat) (v:=xs[i.toNat]) (by simp[hl])
 rwa [Int.toNat_of_nonneg h0] at this
theorem Jt{K:PySem.W.Frag}{T:String}:PySem.W.kitOne K (.type T) (.type T)=some true:=by
 unfold PySem.W.kitOne;rw[Zae (by simp)]
def Ue(J:It)(g:TG)(tb:TS)(D:Ends)(σ:St)(H:Hp):Prop:=∃ W:Nat->Nat->St->Hp->Prop,(∃ m,W 0 m σ H)/\∀ i m σ H,W i m σ H ->
 (J.stop i H/\D.nx σ H)\/(J.go i H/\∃ N:St->Hp->Prop,(∀ σ' H',N σ' H'->∃ m',m'<m/\W (i+1) m' σ' H')/\∀ x H',J.yld i H x H'->g x σ H' λσ2 H2=>tb { D with nx:=N,ct:=N,bk:=D.nx } σ2 H2)
def SameBut(p:Addr)(H H':Hp):Prop:=∀ b o,H b=some o->b≠p->H' b=some o
section
theorem oU{xs:List V}{its:List Value}(r:Vals xs its){j:Nat}(h:j<its.toArray.size):∃ x,xs[j]?=some x/\RelV x its.toArray[j]:=by
 have hl:j<its.length:=by simpa using h
 have hx:j<xs.length:=by rw[r.length];exact hl
 obtain⟨u,hu,ru⟩:=r.get (i:=j) (x:=xs[j]) (by simp[hx])
 refine⟨xs[j],by simp[hx],?_⟩
 have:its.toArray[j]=u:=by
  rw[Zav hl] at hu;simpa using hu
 rw[this];exact ru
end
section
variable{k:Nat}
theorem Ce{A:Around}(hr:cB k A):A.units+32<cLine:=ZbJ (Nat.add_le_add_left (by decide:32<=64) _) hr.units
end
section
variable{κ:Type}[DecidableEq κ]
def rA(kvs:List (κ×V))(k:κ):Option V:=(kvs.find? λkv=>decide (kv.1=k)).map (·.2)
def putK(kvs:List (κ×V))(k:κ)(v:V):List (κ×V):=
 if(kvs.any λkv=>decide (kv.1=k))=true then kvs.map (λkv=>if kv.1=k then(kv.1,v) else kv) else kvs++[(k,v)]
theorem oV{p:κ×V}{r:List (κ×V)}{k:κ}(e:p.1=k):rA (p::r) k=some p.2:=by simp[rA,Zbc,e]
theorem lw{p:κ×V}{r:List (κ×V)}{k:κ}(e:¬p.1=k):rA (p::r) k=rA r k:=by simp[rA,Zbc,e]
theorem yW(k:κ):∀ kvs:List (κ×V),(kvs.any λkv=>decide (kv.1=k))=(rA kvs k).isSome
 |[]=>rfl
 |p::r=>by
  rw[Zbe];by_cases e:p.1=k
  ·simp only[oV e,decide_eq_true e,Bool.true_or,Option.isSome_some]
  ·rw[lw e,Zaq e,Bool.false_or];exact yW k r
theorem qI(kvs:List (κ×V))(k:κ)(v:V):(putK kvs k v).length<=kvs.length+1:=by
 unfold putK;split
 ·rw[Zam];omega
 ·rw[Zaw,Zax,List.length_nil];omega
theorem kJ.jy{o:Option V}{u:Option Value}(r:kJ o u):o.isSome=u.isSome:=by
 cases o with
 |none=>cases u with
  |none=>rfl
  |some _=>exact(show False from r).elim
 |some _=>cases u with
  |none=>exact(show False from r).elim
  |some _=>rfl
theorem KV.val{kvs:List (κ×V)}{vs:List (κ×Value)}(r:KV kvs vs)(k:κ):kJ (rA kvs k) (valueAt vs k):=by
 unfold KV at r;induction r with
 |nil=>exact True.intro
 |@cons p q ps qs h t ih=>
  obtain⟨h1,h2⟩:=h;by_cases e:p.1=k
  ·have e':q.1=k:=h1.symm.trans e;have b:valueAt (q::qs) k=some q.2:=by simp[valueAt,Zbc,e']
   rw[oV e,b];exact h2
  ·have e':¬q.1=k:=λz=>e (h1.trans z);have b:valueAt (q::qs) k=valueAt qs k:=by simp[valueAt,Zbc,e']
   rw[lw e,b];exact ih
theorem KV.any{kvs:List (κ×V)}{vs:List (κ×Value)}(r:KV kvs vs)(k:κ):(kvs.any λkv=>decide (kv.1=k))=vs.any λkv=>decide (kv.1=k):=by
 unfold KV at r;induction r with
 |nil=>rfl
 |cons h t ih=>rw[Zbe,Zbe,ih,h.1]
theorem KV.repl{kvs:List (κ×V)}{vs:List (κ×Value)}(r:KV kvs vs)(k:κ){y:V}{u:Value}(ry:RelV y u) :
  KV (kvs.map λkv=>if kv.1=k then(kv.1,y) else kv) (vs.map λkv=>if kv.1=k then(kv.1,u) else kv):=by
 unfold KV at r ⊢;induction r with
 |nil=>exact .nil
 |@cons p q ps qs h t ih=>
  rw[ZaA,ZaA];refine .cons ?_ ih;obtain⟨h1,h2⟩:=h;by_cases e:p.1=k
  ·rw[Zae e,Zae (h1.symm.trans e)];exact⟨h1,ry⟩
  ·rw[Zaf e,Zaf (λz=>e (h1.trans z))];exact⟨h1,h2⟩
theorem KV.put{kvs:List (κ×V)}{vs:List (κ×Value)}(r:KV kvs vs)(k:κ){y:V}{u:Value}(ry:RelV y u):KV (putK kvs k y) (stored vs k u):=by
 unfold putK stored;rw[r.any k];by_cases e:(vs.any λkv=>decide (kv.1=k))=true
 ·rw[Zae e,Zae e];exact r.repl k ry
 ·rw[Zaf e,Zaf e];exact Paired.snoc r ⟨rfl,ry⟩
theorem KV.length{kvs:List (κ×V)}{vs:List (κ×Value)}(r:KV kvs vs):kvs.length=vs.length:=Paired.length r
end
theorem yX{P:Program}{w:World}{k:Key}{u:Value}(r:RelV (kV k) u):(dM P w).is k u=true:=by
 cases k with
 |inl i=>obtain⟨t,e⟩:=(show ∃ t,u=Value.int i t from r);subst e;exact yK P w i t
 |inr x=>obtain⟨t,e⟩:=(show ∃ t,u=Value.str x t from r);subst e;exact yL P w x t
theorem vN{P:Program}{w:World}:∀ {ks:List Key}{us:List Value},Vals (ks.map kV) us->ItemsAre (dM P w) ks us
 |[],_,r=>by rw[List.map_nil] at r;cases r;exact .nil
 |k::ks,_,r=>by
  rw[ZaA] at r;cases r with
  |cons h t=>exact .cons (yX h) (vN t)
noncomputable abbrev KT(H:Hp):List (List Key×V)->List (List Key×Addr×Value)->Prop:=Paired λp q=>p.1=q.1/\H q.2.1=some (.tup (p.1.map kV))/\RelV p.2 q.2.2
theorem KT.val{H:Hp}{kvs:List (List Key×V)}{xs:List (List Key×Addr×Value)}(r:KT H kvs xs)(k:List Key):kJ (rA kvs k) ((atKey xs k).map (·.2)):=by
 induction r with
 |nil=>exact True.intro
 |@cons p q ps qs h t ih=>
  obtain⟨h1,_,h2⟩:=h;by_cases e:p.1=k
  ·have e':q.1=k:=h1.symm.trans e;have b:atKey (q::qs) k=some q.2:=by simp[atKey,Zbc,e']
   rw[oV e,b];exact h2
  ·have e':¬q.1=k:=λz=>e (h1.trans z);have b:atKey (q::qs) k=atKey qs k:=by simp[atKey,Zbc,e']
   rw[lw e,b];exact ih
theorem KT.repl{H:Hp}{kvs:List (List Key×V)}{xs:List (List Key×Addr×Value)}(r:KT H kvs xs)(k:List Key){y:V}{u:Value}(ry:RelV y u) :
  KT H (kvs.map λkv=>if kv.1=k then(kv.1,y) else kv) (xs.map (putAt k u)):=by
 induction r with
 |nil=>exact .nil
 |@cons p q ps qs h t ih=>
  rw[ZaA,ZaA];refine .cons ?_ ih;obtain⟨h1,h2,h3⟩:=h;unfold putAt;by_cases e:p.1=k
  ·rw[Zae e,Zae (h1.symm.trans e)];exact⟨h1,h2,ry⟩
  ·rw[Zaf e,Zaf (λz=>e (h1.trans z))];exact⟨h1,h2,h3⟩
theorem KT.put{H:Hp}{kvs:List (List Key×V)}{xs:List (List Key×Addr×Value)}(r:KT H kvs xs)(k:List Key){b:Addr}{y:V}{u:Value}(hb:H b=some (.tup (k.map kV)))(ry:RelV y u) :
  KT H (putK kvs k y) (storedH xs k b u):=by
 have e:(kvs.any λkv=>decide (kv.1=k))=(atKey xs k).isSome:=by
  rw[yW,(r.val k).jy,ZbN]
 unfold putK storedH;rw[e];by_cases q:(atKey xs k).isSome=true
 ·rw[Zae q,Zae q];exact r.repl k ry
 ·rw[Zaf q,Zaf q];exact Paired.snoc r ⟨rfl,hb,ry⟩
theorem KT.keeps{H H':Hp}{kvs:List (List Key×V)}{xs:List (List Key×Addr×Value)}(r:KT H kvs xs)(ht:∀ b ys,H b=some (.tup ys)->H' b=some (.tup ys)):KT H' kvs xs:=
 Paired.Qi r λ_ _ z=>⟨z.1,ht _ _ z.2.1,z.2.2⟩
section
variable{P:Program}{w:World}{H:Hp}{h:Heap}{a:Addr}
theorem O4{u:HO}(ok:HOk P w H h)(e:Rd H a u):cY P w H h a u:=e.ok ok
theorem yZ{kvs:List (Key×V)}(ok:HOk P w H h)(e:Rd H a (.dK kvs)):kvs.length<=sizeLine/\(a==sysModules)=false/\∃ vs,KV kvs vs/\h.DictOf (dM P w) a vs:=
 show cY P w H h a (.dK kvs) from O4 ok e
theorem S7{kvs:List (Key×V)}(ok:HOk P w H h)(e:H a=some (.dK kvs)):kvs.length<=sizeLine/\(a==sysModules)=false/\∃ vs,KV kvs vs/\h.DictOf (dM P w) a vs:=yZ ok (.inl e)
theorem sY{ks:List Key}(ok:HOk P w H h)(e:H a=some (.tup (ks.map kV))):(tupleKind (dM P w)).is h ks a:=by
 obtain⟨_,its,r,⟨o,h1,h2,n,h3⟩,_⟩:=(show cY P w H h a (.tup (ks.map kV)) from ok a _ e);exact⟨o,its.toArray,n,h1,h2,h3,by simpa using vN r⟩
theorem za{kvs:List (List Key×V)}(ok:HOk P w H h)(e:Rd H a (.dT kvs)):kvs.length<=sizeLine/\(a==sysModules)=false /\
  ∃ xs,KT H kvs xs/\h.DictOfH (tupleKind (dM P w)) a xs:=by
 obtain⟨z,y,xs,r,o,es,ep,h1,h2,h3,h4,h5⟩:=(show cY P w H h a (.dT kvs) from O4 ok e);refine⟨z,y,xs,r,o,es,ep,h1,h2,h3,h4,λx hx=>?_,h5⟩;have all:∀ {l:List (List Key×V)}{m:List (List Key×Addr×Value)},KT H l m->∀ x∈m,(tupleKind (dM P w)).is h x.1 x.2.1:=by
  intro l m q;induction q with
  |nil=>intro x hx;exact nomatch hx
  |@cons p q ps qs hq t ih=>
   intro x hx;rcases ZaB.mp hx with e|hx
   ·subst e;exact sY ok (by rw[<-hq.1];exact hq.2.1)
   ·exact ih x hx
 exact all r x hx
theorem S8{kvs:List (List Key×V)}(ok:HOk P w H h)(e:H a=some (.dT kvs)):kvs.length<=sizeLine/\(a==sysModules)=false /\
  ∃ xs,KT H kvs xs/\h.DictOfH (tupleKind (dM P w)) a xs:=za ok (.inl e)
end
def sZ(H:Hp)(a:Addr)(y:V)(r:Option V):Prop:=
 (∃ kvs k,Rd H a (.dK kvs)/\y=kV k/\r=rA kvs k)\/∃ kvs k b,Rd H a (.dT kvs)/\y=.ref b/\H b=some (.tup (k.map kV))/\r=rA kvs k
def wV(H:Hp)(a:Addr)(y v:V)(H':Hp):Prop:=
 (∃ kvs k,H a=some (.dK kvs)/\y=kV k/\kvs.length<sizeLine/\H'=upd H a (.dK (putK kvs k v))) \/
 ∃ kvs k b,H a=some (.dT kvs)/\y=.ref b/\H b=some (.tup (k.map kV))/\kvs.length<sizeLine/\H'=upd H a (.dT (putK kvs k v))
theorem wV.k{H:Hp}{a:Addr}{kvs:List (Key×V)}{k:Key}{v:V}(e:H a=some (.dK kvs))(hl:kvs.length<sizeLine):wV H a (kV k) v (upd H a (.dK (putK kvs k v))):=.inl ⟨kvs,k,e,rfl,hl,rfl⟩
theorem wV.t{H:Hp}{a b:Addr}{kvs:List (List Key×V)}{k:List Key}{v:V}(e:H a=some (.dT kvs))(eb:H b=some (.tup (k.map kV)))(hl:kvs.length<sizeLine) :
  wV H a (.ref b) v (upd H a (.dT (putK kvs k v))):=.inr ⟨kvs,k,b,e,rfl,eb,hl,rfl⟩
section
variable{X:Cx}{pins:List (Addr×Obj)}{σ:St}{H:Hp}{s:Shared}{a:Addr}{y v:V}{u r:Value}{o:Option V}{A:Around}{E:Value->Shared->Prop}
theorem Inv.big(I:Inv X pins σ H s):sysModules<s.heap.objs.size:=by
 have h:mainGlobals<s.heap.objs.size:=(I.mod.glob.keeps I.bk).lt;exact Nat.lt_trans (by decide) h
theorem GQ{Q:Value->Shared->Prop}(hu:A.units+1<cLine)(I:Inv X pins σ H s)(g:sZ H a y (some v))(ry:RelV y u)(h:∀ w' s',Inv X pins σ H s'->RelV v w'->Q w' s') :
  wpAny (model X.prog X.w) A (getItem (.ref a) u) Q E s:=by
 rcases g with⟨kvs,k,e,ey,l⟩|⟨kvs,k,b,e,ey,eb,l⟩
 ·subst ey;obtain⟨z,hd,vs,rel,dd⟩:=yZ I.hok e;obtain⟨w',hw,rw'⟩:=kJ.some_of (v:=v) (o:=valueAt vs k) (by rw[l];exact rel.val k)
  exact wpAny_getItem_of (yX ry) dd.mapOf hw (h w' _ (I.tok _) rw')
 ·subst ey;cases (show u=Value.ref b from ry);obtain⟨z,hd,xs,rel,dd⟩:=za I.hok e;obtain⟨w',hw,rw'⟩:=kJ.some_of (v:=v) (o:=(atKey xs k).map (·.2)) (by rw[l];exact rel.val k)
  obtain⟨p,hp,hp2⟩:=ZaX.mp hw;refine wpAny_getItem_heap (tupleKind_room_in1 hu) (sY I.hok eb) dd hp ?_;rw[hp2];exact h w' _ (I.tok _) rw'
theorem Ug{Q:Value->Shared->Prop}(hu:A.units+1<cLine)(I:Inv X pins σ H s)(g:sZ H a y o)(ry:RelV y u)(h:∀ s',Inv X pins σ H s'->Q (.bool o.isSome) s') :
  wpAny (model X.prog X.w) A (compareOp .In u (.ref a)) Q E s:=by
 rcases g with⟨kvs,k,e,ey,l⟩|⟨kvs,k,b,e,ey,eb,l⟩
 ·subst ey;obtain⟨z,hd,vs,rel,dd⟩:=yZ I.hok e;refine wpAny_in_of (yX ry) hd dd.mapOf ?_;rw[<-(rel.val k).jy,<-l];exact h _ (I.tok _)
 ·subst ey;cases (show u=Value.ref b from ry);obtain⟨z,hd,xs,rel,dd⟩:=za I.hok e;refine wpAny_in_heap (tupleKind_room_in1 hu) (sY I.hok eb) hd dd ?_;have q:=(rel.val k).jy;rw[ZbN] at q;rw[<-q,<-l];exact h _ (I.tok _)
theorem Mp{Q:Value->Shared->Prop}(hu:A.units+1<cLine)(I:Inv X pins σ H s)(g:sZ H a y o)(ry:RelV y u)(h:∀ s',Inv X pins σ H s'->Q (.bool (!o.isSome)) s') :
  wpAny (model X.prog X.w) A (compareOp .NotIn u (.ref a)) Q E s:=by
 rcases g with⟨kvs,k,e,ey,l⟩|⟨kvs,k,b,e,ey,eb,l⟩
 ·subst ey;obtain⟨z,hd,vs,rel,dd⟩:=yZ I.hok e;refine wpAny_notIn_of (yX ry) hd dd.mapOf ?_;rw[<-(rel.val k).jy,<-l];exact h _ (I.tok _)
 ·subst ey;cases (show u=Value.ref b from ry);obtain⟨z,hd,xs,rel,dd⟩:=za I.hok e;refine wpAny_notIn_heap (tupleKind_room_in1 hu) (sY I.hok eb) hd dd ?_;have q:=(rel.val k).jy;rw[ZbN] at q;rw[<-q,<-l];exact h _ (I.tok _)
theorem Eg{h':Heap}{t':Nat}{ob:HO}(I:Inv X pins σ H s)(mu:Mut (H a))(hs:Heap.SameBut a s.heap h')(he:∃ q,h'.get? a=some q)(new:cY X.prog X.w (upd H a ob) h' a ob) :
  Inv X pins σ (upd H a ob) { s with heap:=h',toks:=t' }:=
 I.write (x:=a) (e:=a) mu (.inl rfl) (λb q hb z=>(hs.2 b hb).trans z) he new
theorem QM{P:Program}{w:World}{H':Hp}{h':Heap}{kvs:List (Key×V)}{vs:List (Key×Value)}(z:kvs.length<=sizeLine)(hd:(a==sysModules)=false)(rel:KV kvs vs)(dd:h'.DictOf (dM P w) a vs) :
  cY P w H' h' a (.dK kvs):=⟨z,hd,vs,rel,dd⟩
theorem GR{H':Hp}{Q:Unit->Shared->Prop}(hu:A.units+1<cLine)(I:Inv X pins σ H s)(g:wV H a y v H')(ry:RelV y u)(rv:RelV v r)(h:∀ s',Inv X pins σ H' s'->Q () s') :
  wpAny (model X.prog X.w) A (setItem (.ref a) u r) Q E s:=by
 rcases g with⟨kvs,k,e,ey,l,eH⟩|⟨kvs,k,b,e,ey,eb,l,eH⟩
 ·subst ey eH;obtain⟨z,hd,vs,rel,dd⟩:=S7 I.hok e;have hz:vs.length<=sizeLine:=by rw[<-rel.length];exact z
  have hl:(putK kvs k v).length<=sizeLine:=by have:=qI kvs k v;lia
  refine wpAny_setItem_pairs (hsz:=hz) (yX ry) dd λh' dd' hs=>h _ ?_;have he:∃ q,h'.get? a=some q:=let⟨q,_,_,hq,_⟩:=dd';⟨q,hq⟩;exact Eg I (by rw[e];exact True.intro) hs he (QM hl hd (rel.put k rv) dd')
 ·subst ey eH;cases (show u=Value.ref b from ry);obtain⟨z,hd,xs,rel,dd⟩:=S8 I.hok e;have hz:xs.length<=sizeLine:=by rw[<-Paired.length rel];exact z
  have hl:(putK kvs k v).length<=sizeLine:=by have:=qI kvs k v;lia
  refine wpAny_setItem_heap (hsz:=hz) (tupleKind_room_in1 hu) (sY I.hok eb) dd λh' dd' hs=>h _ ?_;obtain⟨q,es,ep,hq,h2,h3,h4,_,h5⟩:=dd';refine Eg I (by rw[e];exact True.intro) hs ⟨q,hq⟩ ⟨hl,hd,_,(rel.put k eb rv).keeps λc ys ec=>?_,q,es,ep,hq,h2,h3,h4,h5⟩
  rw[aM (R0 ec e (λz=>nomatch z))];exact ec
end
def QQ(i:Expr):Prop:=∀ ov iv,subscripted i false ov iv=operate [ov,iv] (getItem ov iv)
theorem Mq{prog:Program}{w:World}{A:Around}{E:Value->Shared->Prop}{s:Shared}{env:Env}{value slice:Expr}{pos:Pos}{T id:String}{Q:Value->Shared->Prop}
  (hl:typeLookup (.type T) "__getitem__"=pure (some (.builtin id)))(hs:QQ slice)
  (h:wpAny (model prog w) A (eval value env) (λo s₁=>wpAny (model prog w) A (eval slice env) (λi s₂=>s₂.TypeIs o T/\wpAny (model prog w) A (getItem o i) Q E s₂) E s₁) E s) :
  wpAny (model prog w) A (eval (.Subscript value slice pos) env) Q E s:=by
 refine Subscript_ (ZaG h (λo s₁ h₁=>ZaG h₁ (λi s₂ h₂=>?_) λ_ _ x=>x) λ_ _ x=>x);obtain⟨hT,h₂⟩:=h₂;unfold subscriptTail;refine Zab ?_;rw[getitemInPython_of_ne hT.not_modules];refine Zab (wpAny_specialOf hT hl ?_);have fin:wpAny (model prog w) A (subscripted slice false o i) (λr s₃=>wpAny (model prog w) A (letTemporaryGo value o r>>=λ_=>pure r) Q E s₃) E s₂:=by
  rw[hs o i];exact wpAny_operating (ZaG h₂ (λr s₃ h₃=>Zab (wpAny_letTemporaryGo (Zal h₃))) λ_ _ x=>x)
 first
  |exact Zal (Zab fin)
  |exact Zab (Zal (Zab fin))
  |exact Zab fin
theorem zb{X:Cx}{pins:List (Addr×Obj)}{σ:St}{H:Hp}{s:Shared}{a:Addr}{y:V}{o:Option V}(I:Inv X pins σ H s)(g:sZ H a y o):s.TypeIs (.ref a) "dict":=by
 rcases g with⟨kvs,k,e,_,_⟩|⟨kvs,k,b,e,_,_,_⟩
 ·obtain⟨_,_,vs,_,dd⟩:=yZ I.hok e;exact dd.typeIs
 ·obtain⟨_,_,xs,_,dd⟩:=za I.hok e;exact dd.typeIs
def Ju(td ty:TE):TE:=λσ H Q=>td σ H λx H1=>ty σ H1 λy H2=>∃ a v,x=.ref a/\sZ H2 a y (some v)/\Q v H2
def Jv(td ty tv:TE):TS:=λD σ H=>tv σ H λv H1=>td σ H1 λx H2=>ty σ H2 λy H3=>∃ a H4,x=.ref a/\wV H3 a y v H4/\D.nx σ H4
section
variable{X:Cx}{o i value:Expr}{pos pos':Pos}{td ty tv:TE}
theorem Mr(hu:X.A.units+1<cLine)(ho:PE X o td)(hi:PE X i ty)(hs:QQ i):PE X (.Subscript o i pos) (Ju td ty):=by
 intro pins s σ H Q I h;refine Mq PySem.F.slot_dict_getitem.lookup hs (thn (ho pins s σ H _ I h) λu s1 ⟨x,H1,I1,rx,q1⟩=>thn (hi pins s1 σ H1 _ I1 q1) ?_);rintro iv s2 ⟨y,H2,I2,ry,a,v,ex,g,q2⟩;subst ex;obtain rfl:u=Value.ref a:=rx;exact⟨zb I2 g,GQ hu I2 g ry λw' s3 I3 rw'=>⟨v,H2,I3,rw',q2⟩⟩
theorem rH(hu:X.A.units+1<cLine)(ho:PE X o td)(hi:PE X i ty)(hv:PE X value tv)(hs:swapsWith value (some (.Subscript o i pos')) pos.line X.env=pure false) :
  PS X (.Assign [.Subscript o i pos'] value pos) (Jv td ty tv):=by
 intro pins s σ H D I h;refine wpAny_Assign_Subscript (thn (hv pins s σ H _ I h) λr s1 ⟨v,H1,I1,rv,q1⟩=>thn (ho pins s1 σ H1 _ I1 q1) λu s2 ⟨x,H2,I2,rx,q2⟩=>thn (hi pins s2 σ H2 _ I2 q2) ?_) hs;rintro iv s3 ⟨y,H3,I3,ry,a,H4,ex,g,q3⟩;subst ex;obtain rfl:u=Value.ref a:=rx;exact GR hu I3 g ry rv λs4 I4=>⟨σ,H4,I4,q3⟩
end
theorem Jw{P:Program}{w:World}{H:Hp}(h:Heap)(hb:sysModules<h.objs.size):cY P w H (h.push { cls:=.type "dict",data:=.dict #[] }) h.objs.size (.dK []):=
 ⟨Zbp _,beq_eq_false_iff_ne.mpr (ZaS (ZaC hb)),[],.nil,Heap.DictOf.new h⟩
def Jx:TE:=λ_ H Q=>∀ p,H p=none->Q (.ref p) (upd H p (.dK []))
section
variable{X:Cx}{pos:Pos}
theorem tu:PE X (.Dict [] [] pos) Jx:=λpins s σ H Q I h=>
 wpAny_Dict_empty ⟨.ref s.heap.objs.size,_,I.laid (a:=s.heap.objs.size) (o:=.dK []) (t':=s.toks) (λ_ _ q=>Zad _ q) (Zak _) (Jw s.heap I.big),rfl,h _ (I.hok.fresh (Zak _))⟩
end
def Jy:List (TE×TE)->St->Hp->(List (V×V)->Hp->Prop)->Prop
 |[],_,H,Q=>Q [] H
 |(tk,tv)::r,σ,H,Q=>tk σ H λx H1=>tv σ H1 λy H2=>Jy r σ H2 λps H3=>Q ((x,y)::ps) H3
noncomputable abbrev VV:List (V×V)->List (Value×Value)->Prop:=Paired λp q=>RelV p.1 q.1/\RelV p.2 q.2
def PPs(X:Cx)(pos:Pos)(keys:List (Option Expr))(values:List Expr)(trs:List (TE×TE)):Prop:=
 ∀ (pins:List (Addr×Obj)) (s:Shared) (σ:St) (H:Hp) (Q:List (V×V)->Hp->Prop),Inv X pins σ H s->Jy trs σ H Q ->
  wpAny (model X.prog X.w) X.A (evalPairs (pairTrees keys values X.env pos)) (λvs s'=>∃ ps H',Inv X pins σ H' s'/\VV ps vs/\Q ps H') X.xe s
end L2
namespace L2.MP
open PySem PySem.Spec PyProof.Rows
inductive PV where
 |non|bl (b:Bool)|int (i:Int)|str (x:Str)|ty (n:String)
 |tup (l:List PV)|lst (l:List PV)|dk (l:List (Key×PV))|dt (l:List (List Key×PV))
 |exc (c:Str) (fs:List (Str×PV))|obj (c:Str) (fs:List (Str×PV))
noncomputable instance:Inhabited PV:=⟨.non⟩
def PV.flat:PV->Bool
 |.non|.bl _|.int _|.str _|.ty _=>true
 |_=>false
def lz:Nat->PV->Bool
 |0,p=>p.flat
 |n+1,.tup l=>l.all (lz n)
 |_+1,p=>p.flat
def PV.still(p:PV):Bool:=lz 5 p
inductive Res(α:Type) where
 |ok (a:α)|ex (z:PV)
def bnd{α β:Type}(x:Option (Res α))(k:α->Option (Res β)):Option (Res β):=match x with
 |some (.ok a)=>k a
 |some (.ex z)=>some (.ex z)
 |none=>none
theorem Jz{α β:Type}{a:α}{k:α->Option (Res β)}:bnd (some (.ok a)) k=k a:=rfl
def XO(e C:Addr)(d:Option Addr):HO:=.ext λh=>∃ vs:Array Value,h.get? e=some { cls:=.ref C,dict:=d,data:=.fields vs }
structure XNm(K:PySem.W.Frag)(C:Addr)(c:Str):Prop where
 ns:nsIn K mainGlobals c=some (some (.ref C))
 cl:∃ cd,PySem.W.clsIn K C=some cd/\cd.name=c
inductive Rep(K:PySem.W.Frag)(F:Hp):V->PV->Prop
 |non:Rep K F .non .non
 |bl {b:Bool}:Rep K F (.bl b) (.bl b)
 |int {i:Int}:Rep K F (.int i) (.int i)
 |str {x:Str}:Rep K F (.str x) (.str x)
 |ty {n:String}:Rep K F (.ty n) (.ty n)
 |tup {a:Addr}{xs:List V}{l:List PV} (h:F a=some (.tup xs)) (hl:xs.length=l.length) (hr:∀ (j:Nat) x p,xs[j]?=some x->l[j]?=some p->Rep K F x p):Rep K F (.ref a) (.tup l)
 |lst {a:Addr}{xs:List V}{l:List PV} (h:SqL K F a xs) (hl:xs.length=l.length) (hr:∀ (j:Nat) x p,xs[j]?=some x->l[j]?=some p->Rep K F x p):Rep K F (.ref a) (.lst l)
 |dk {a:Addr}{xs:List (Key×V)}{l:List (Key×PV)} (h:Rd F a (.dK xs)) (hl:xs.map (·.1)=l.map (·.1)) (hr:∀ (j:Nat) x p,xs[j]?=some x->l[j]?=some p->Rep K F x.2 p.2):Rep K F (.ref a) (.dk l)
 |dt {a:Addr}{xs:List (List Key×V)}{l:List (List Key×PV)} (h:Rd F a (.dT xs)) (hl:xs.map (·.1)=l.map (·.1)) (hr:∀ (j:Nat) x p,xs[j]?=some x->l[j]?=some p->Rep K F x.2 p.2):Rep K F (.ref a) (.dt l)
 |exc {a C dx:Addr}{c:Str}{xs:List (Str×V)}{l:List (Str×PV)} (nm:XNm K C c) (h:F a=some (XO a C (some dx))) (hd:F dx=some (.xd xs)) (hl:xs.map (·.1)=l.map (·.1)) (hr:∀ (j:Nat) x p,xs[j]?=some x->l[j]?=some p->Rep K F x.2 p.2):Rep K F (.ref a) (.exc c l)
 |exc0 {a C:Addr}{c:Str} (nm:XNm K C c) (h:F a=some (XO a C none)):Rep K F (.ref a) (.exc c [])
 |obj {a C dx:Addr}{c:Str}{xs:List (Str×V)}{l:List (Str×PV)} (nm:XNm K C c) (h:F a=some (.ins C dx xs)) (hl:xs.map (·.1)=l.map (·.1)) (hr:∀ (j:Nat) x p,xs[j]?=some x->l[j]?=some p->Rep K F x.2 p.2):Rep K F (.ref a) (.obj c l)
def bz(K:PySem.W.Frag)(F:Hp)(xs:List V)(l:List PV):Prop:=xs.length=l.length/\∀ (j:Nat) x p,xs[j]?=some x->l[j]?=some p->Rep K F x p
section
variable{K:PySem.W.Frag}{F F':Hp}{v:V}{p:PV}{xs ys:List V}{l m:List PV}
theorem _root_.L2.Rd.same{F F':Hp}{a:Addr}{u:HO}(h:Rd F a u)(s:aL F F'):Rd F' a u:=h.imp (s _ _) λ⟨o,e⟩=>⟨o,s _ _ e⟩
theorem Rep.up(h:Rep K F v p)(s:aL F F'):Rep K F' v p:=by
 induction h with
 |non=>exact .non
 |bl=>exact .bl
 |int=>exact .int
 |str=>exact .str
 |ty=>exact .ty
 |tup h hl _ ih=>exact .tup (s _ _ h) hl ih
 |lst h hl _ ih=>exact .lst (s.seq h) hl ih
 |dk h hl _ ih=>exact .dk (h.same s) hl ih
 |dt h hl _ ih=>exact .dt (h.same s) hl ih
 |exc nm h hd hl _ ih=>exact .exc nm (s _ _ h) (s _ _ hd) hl ih
 |exc0 nm h=>exact .exc0 nm (s _ _ h)
 |obj nm h hl _ ih=>exact .obj nm (s _ _ h) hl ih
theorem bz.up(h:bz K F xs l)(s:aL F F'):bz K F' xs l:=⟨h.1,λj x p a b=>(h.2 j x p a b).up s⟩
theorem Rep.free(h:Rep K F v p)(hf:p.flat=true):Rep K F' v p:=by
 cases h with
 |non=>exact .non
 |bl=>exact .bl
 |int=>exact .int
 |str=>exact .str
 |ty=>exact .ty
 |tup=>cases hf
 |lst=>cases hf
 |dk=>cases hf
 |dt=>cases hf
 |exc=>cases hf
 |exc0=>cases hf
 |obj=>cases hf
theorem bz.nil:bz K F [] []:=⟨rfl,λj x p h=>by simp at h⟩
theorem bz.cons(h:Rep K F v p)(t:bz K F xs l):bz K F (v::xs) (p::l):=by
 refine⟨by simp[t.1],λj x q a b=>?_⟩
 cases j with
 |zero=>simp at a b;subst a b;exact h
 |succ j=>exact t.2 j x q (by simpa using a) (by simpa using b)
theorem bz.append(h:bz K F xs l)(t:bz K F ys m):bz K F (xs++ys) (l++m):=by
 refine⟨by rw[Zaw,Zaw,h.1,t.1],λj x p a b=>?_⟩
 by_cases hj:j<xs.length
 ·rw[Zan hj] at a;rw[Zan (by rw[<-h.1];exact hj)] at b
  exact h.2 j x p a b
 ·rw[Zap (by lia)] at a
  rw[Zap (by rw[<-h.1];lia),<-h.1] at b
  exact t.2 _ x p a b
theorem bz.snoc(h:bz K F xs l)(t:Rep K F v p):bz K F (xs++[v]) (l++[p]):=h.append (bz.nil.cons t)
theorem bz.get(h:bz K F xs l){j:Nat}(e:l[j]?=some p):∃ x,xs[j]?=some x/\Rep K F x p:=by
 have hj:j<xs.length:=by rw[h.1];exact(Zar.mp e).1
 exact⟨xs[j],by simp[hj],h.2 j _ p (by simp[hj]) e⟩
theorem bz.got(h:bz K F xs l){j:Nat}(e:xs[j]?=some v):∃ p,l[j]?=some p/\Rep K F v p:=by
 have hj:j<l.length:=by rw[<-h.1];exact(Zar.mp e).1
 exact⟨l[j],by simp[hj],h.2 j v _ e (by simp[hj])⟩
theorem bz.take(h:bz K F xs l)(n:Nat):bz K F (xs.take n) (l.take n):=by
 refine⟨by simp[h.1],λj x p a b=>?_⟩
 rw[List.getElem?_take] at a b;split at a
 ·rename_i hj;rw[Zae hj] at b;exact h.2 j x p a b
 ·cases a
theorem bz.drop(h:bz K F xs l)(n:Nat):bz K F (xs.drop n) (l.drop n):=by
 refine⟨by simp[h.1],λj x p a b=>?_⟩
 rw[List.getElem?_drop] at a b;exact h.2 _ x p a b
theorem bz.set(h:bz K F xs l)(t:Rep K F v p)(i:Nat):bz K F (xs.set i v) (l.set i p):=by
 refine⟨by simp[h.1],λj x q a b=>?_⟩
 rw[Zbq] at a b;by_cases hj:i=j
 ·subst hj;rw[Zae rfl] at a b;split at a
  ·rename_i hl;rw[Zae (by rw[<-h.1];exact hl)] at b
   cases a;cases b;exact t
  ·cases a
 ·rw[Zaf hj] at a b;exact h.2 j x q a b
theorem bz.gV(h:bz K F xs (p::l)):∃ v ys,xs=v::ys/\Rep K F v p/\bz K F ys l:=by
 obtain⟨hl,hr⟩:=h
 match xs,hl,hr with
 |[],hl,_=>simp at hl
 |v::ys,hl,hr=>exact⟨v,ys,rfl,hr 0 v p rfl rfl,by simpa using hl,λj x q a b=>hr (j+1) x q (by simpa using a) (by simpa using b)⟩
theorem bz.oW(h:bz K F xs []):xs=[]:=by
 have:=h.1;simpa using this
theorem bz.wW:∀ (ns:List Int),bz K F (ns.map V.int) (ns.map PV.int)
 |[]=>.nil
 |n::ns=>(bz.wW ns).cons .int
theorem Rep.aX{i:Int}(h:Rep K F v (.int i)):v=.int i:=by cases h;rfl
theorem Rep.cX{b:Bool}(h:Rep K F v (.bl b)):v=.bl b:=by cases h;rfl
theorem Rep.bF{z:Str}(h:Rep K F v (.str z)):v=.str z:=by cases h;rfl
theorem Rep.du(h:Rep K F v .non):v=.non:=by cases h;rfl
theorem Rep.QR{n:String}(h:Rep K F v (.ty n)):v=.ty n:=by cases h;rfl
theorem Rep.cu(h:Rep K F v (.tup l)):∃ a xs,v=.ref a/\SqT K F a xs/\bz K F xs l:=by cases h with|tup h hl hr=>exact⟨_,_,rfl,SqT.of h,hl,hr⟩
theorem Rep.zc(h:Rep K F v (.tup l)):∃ a xs,v=.ref a/\F a=some (.tup xs)/\bz K F xs l:=by cases h with|tup h hl hr=>exact⟨_,_,rfl,h,hl,hr⟩
theorem Rep.cH(h:Rep K F v (.lst l)):∃ a xs,v=.ref a/\SqL K F a xs/\bz K F xs l:=by cases h with|lst h hl hr=>exact⟨_,_,rfl,h,hl,hr⟩
end
structure Cf where
 io:Addr->Prop
 nw:Prop
 H0:Hp
 F0:Hp
 E:XK
inductive Sl where
 |sh (p:PV)|ow (p:PV)|dp (p:PV)
noncomputable abbrev Rho:=List (Option Sl)
def Own(K:PySem.W.Frag)(F H:Hp)(a:Addr):PV->Prop
 |.lst l=>∃ xs,H a=some (.lst xs)/\bz K F xs l
 |.dk l=>∃ xs,H a=some (.dK xs)/\xs.map (·.1)=l.map (·.1)/\∀ (j:Nat) x p,xs[j]?=some x->l[j]?=some p->Rep K F x.2 p.2
 |.dt l=>∃ xs,H a=some (.dT xs)/\xs.map (·.1)=l.map (·.1)/\∀ (j:Nat) x p,xs[j]?=some x->l[j]?=some p->Rep K F x.2 p.2
 |_=>False
inductive Dp(K:PySem.W.Frag)(F H:Hp):(Addr->Prop)->V->PV->Prop
 |fr {P:Addr->Prop}{v:V}{p:PV} (h:Rep K F v p) (st:p.still=true):Dp K F H P v p
 |lst {P:Addr->Prop}{S:Nat->Addr->Prop}{a:Addr}{xs:List V}{l:List PV} (h:H a=some (.lst xs)) (hp:P a) (hs:∀ j b,S j b->P b/\b≠a) (dj:∀ i j b,S i b->S j b->i=j) (hl:xs.length=l.length)
   (hr:∀ (j:Nat) x p,xs[j]?=some x->l[j]?=some p->Dp K F H (S j) x p):Dp K F H P (.ref a) (.lst l)
 |tup {P:Addr->Prop}{S:Nat->Addr->Prop}{a:Addr}{xs:List V}{l:List PV} (h:H a=some (.tup xs)) (hs:∀ j b,S j b->P b) (dj:∀ i j b,S i b->S j b->i=j) (hl:xs.length=l.length)
   (hr:∀ (j:Nat) x p,xs[j]?=some x->l[j]?=some p->Dp K F H (S j) x p):Dp K F H P (.ref a) (.tup l)
 |dk {P:Addr->Prop}{S:Nat->Addr->Prop}{a:Addr}{xs:List (Key×V)}{l:List (Key×PV)} (h:H a=some (.dK xs)) (hp:P a) (hs:∀ j b,S j b->P b/\b≠a) (dj:∀ i j b,S i b->S j b->i=j) (hl:xs.map (·.1)=l.map (·.1))
   (hr:∀ (j:Nat) x p,xs[j]?=some x->l[j]?=some p->Dp K F H (S j) x.2 p.2):Dp K F H P (.ref a) (.dk l)
 |dt {P:Addr->Prop}{S:Nat->Addr->Prop}{a:Addr}{xs:List (List Key×V)}{l:List (List Key×PV)} (h:H a=some (.dT xs)) (hp:P a) (hs:∀ j b,S j b->P b/\b≠a) (dj:∀ i j b,S i b->S j b->i=j) (hl:xs.map (·.1)=l.map (·.1))
   (hr:∀ (j:Nat) x p,xs[j]?=some x->l[j]?=some p->Dp K F H (S j) x.2 p.2):Dp K F H P (.ref a) (.dt l)
 |obj {P:Addr->Prop}{S:Nat->Addr->Prop}{a C dx:Addr}{c:Str}{xs:List (Str×V)}{l:List (Str×PV)} (nm:XNm K C c) (h:H a=some (.ins C dx xs)) (hp:P a) (hs:∀ j b,S j b->P b/\b≠a) (dj:∀ i j b,S i b->S j b->i=j) (hl:xs.map (·.1)=l.map (·.1))
   (hr:∀ (j:Nat) x p,xs[j]?=some x->l[j]?=some p->Dp K F H (S j) x.2 p.2):Dp K F H P (.ref a) (.obj c l)
section
variable{K:PySem.W.Frag}{F F' H H':Hp}{v:V}{p:PV}{P P':Addr->Prop}
theorem Dp.mono(h:Dp K F H P v p)(m:∀ b,P b->P' b):Dp K F H P' v p:=by
 cases h with
 |fr h st=>exact .fr h st
 |lst h hp hs dj hl hr=>exact .lst h (m _ hp) (λj b q=>⟨m _ (hs j b q).1,(hs j b q).2⟩) dj hl hr
 |tup h hs dj hl hr=>exact .tup h (λj b q=>m _ (hs j b q)) dj hl hr
 |dk h hp hs dj hl hr=>exact .dk h (m _ hp) (λj b q=>⟨m _ (hs j b q).1,(hs j b q).2⟩) dj hl hr
 |dt h hp hs dj hl hr=>exact .dt h (m _ hp) (λj b q=>⟨m _ (hs j b q).1,(hs j b q).2⟩) dj hl hr
 |obj nm h hp hs dj hl hr=>exact .obj nm h (m _ hp) (λj b q=>⟨m _ (hs j b q).1,(hs j b q).2⟩) dj hl hr
theorem Dp.up(h:Dp K F H P v p)(sf:aL F F')(sh:∀ b o,P b->H b=some o->H' b=some o)(ht:∀ b ys,H b=some (.tup ys)->H' b=some (.tup ys)):Dp K F' H' P v p:=by
 induction h with
 |fr h st=>exact .fr (h.up sf) st
 |lst h hp hs dj hl _ ih=>exact .lst (sh _ _ hp h) hp hs dj hl λj x p e1 e2=>ih j x p e1 e2 λb o q=>sh b o (hs j b q).1
 |tup h hs dj hl _ ih=>exact .tup (ht _ _ h) hs dj hl λj x p e1 e2=>ih j x p e1 e2 λb o q=>sh b o (hs j b q)
 |dk h hp hs dj hl _ ih=>exact .dk (sh _ _ hp h) hp hs dj hl λj x p e1 e2=>ih j x p e1 e2 λb o q=>sh b o (hs j b q).1
 |dt h hp hs dj hl _ ih=>exact .dt (sh _ _ hp h) hp hs dj hl λj x p e1 e2=>ih j x p e1 e2 λb o q=>sh b o (hs j b q).1
 |obj nm h hp hs dj hl _ ih=>exact .obj nm (sh _ _ hp h) hp hs dj hl λj x p e1 e2=>ih j x p e1 e2 λb o q=>sh b o (hs j b q).1
theorem Dp.seen(h:Dp K F H P v p)(sf:aL F F')(sh:∀ b o,P b->H b=some o->F' b=some o)(ht:∀ b ys,H b=some (.tup ys)->F' b=some (.tup ys)):Rep K F' v p:=by
 induction h with
 |fr h st=>exact h.up sf
 |lst h hp hs dj hl _ ih=>exact .lst (SqL.of (sh _ _ hp h)) hl λj x p e1 e2=>ih j x p e1 e2 λb o q=>sh b o (hs j b q).1
 |tup h hs dj hl _ ih=>exact .tup (ht _ _ h) hl λj x p e1 e2=>ih j x p e1 e2 λb o q=>sh b o (hs j b q)
 |dk h hp hs dj hl _ ih=>exact .dk (.inl (sh _ _ hp h)) hl λj x p e1 e2=>ih j x p e1 e2 λb o q=>sh b o (hs j b q).1
 |dt h hp hs dj hl _ ih=>exact .dt (.inl (sh _ _ hp h)) hl λj x p e1 e2=>ih j x p e1 e2 λb o q=>sh b o (hs j b q).1
 |obj nm h hp hs dj hl _ ih=>exact .obj nm (sh _ _ hp h) hl λj x p e1 e2=>ih j x p e1 e2 λb o q=>sh b o (hs j b q).1
end
structure RD(K:PySem.W.Frag)(C:Cf)(F H:Hp)(σ:St)(ρ:Rho)(P:Nat->Addr->Prop):Prop where
 own:∀ i b,P i b->F b=none/\(∃ o,H b=some o/\∀ ys,o≠.tup ys)/\C.nw/\C.H0 b=none
 dis:∀ i j b,P i b->P j b->i=j
 ow:∀ (i j:Nat) q b,P i b->ρ[j]?=some (some (.ow q))->σ[j]?≠some (some (.ref b))
 dp:∀ (i:Nat) p,ρ[i]?=some (some (.dp p))->∃ v,σ[i]?=some (some v)/\Dp K F H (P i) v p
theorem RD.no{K:PySem.W.Frag}{C:Cf}{F H:Hp}{σ:St}{ρ:Rho}(h:∀ (i:Nat) p,ρ[i]?≠some (some (.dp p))):RD K C F H σ ρ (λ_ _=>False):=
 ⟨λ_ _ q=>q.elim,λ_ _ _ q=>q.elim,λ_ _ _ _ q=>q.elim,λi p e=>absurd e (h i p)⟩
def Frz(H:Hp)(b:Addr)(o:HO):Prop:=H b=none\/∃ ys,o=.tup ys
structure RB(C:Cf)(F H:Hp):Prop where
 sub:aL F H
 keep:∀ b o,C.H0 b=some o->¬C.io b->H b=some o
 new:∀ b o,F b=some o->C.F0 b=some o\/Frz C.H0 b o
 ios:∀ b,C.io b->H b≠none/\C.H0 b≠none
structure RE(K:PySem.W.Frag)(C:Cf)(F H:Hp)(σ:St)(ρ:Rho):Prop where
 rb:RB C F H
 len:σ.length=ρ.length
 sh:∀ (i:Nat) p,ρ[i]?=some (some (.sh p))->∃ v,σ[i]?=some (some v)/\Rep K F v p
 ow:∀ (i:Nat) p,ρ[i]?=some (some (.ow p))->∃ a,σ[i]?=some (some (.ref a))/\Own K F H a p/\F a=none/\(C.io a\/(C.nw/\C.H0 a=none))
 dis:∀ (i j:Nat) p q a,ρ[i]?=some (some (.ow p))->ρ[j]?=some (some (.ow q))->σ[i]?=some (some (.ref a))->σ[j]?=some (some (.ref a))->i=j
 dd:∃ P,RD K C F H σ ρ P
structure Up(F H F' H':Hp):Prop where
 ff:aL F F'
 hh:aL H H'
 fr:∀ b o,F' b=some o->F b=some o\/Frz H b o
 fh:aL F' H'
section
variable{K:PySem.W.Frag}{C:Cf}{F F1 F2 F' H H1 H2 H':Hp}{σ:St}{ρ:Rho}{a:Addr}{p:PV}{v:V}
theorem Up.refl(s:aL F H):Up F H F H:=⟨aL.refl _,aL.refl _,λ_ _ h=>.inl h,s⟩
theorem Up.trans(a:Up F H F1 H1)(b:Up F1 H1 F2 H2):Up F H F2 H2:=
 ⟨a.ff.trans b.ff,a.hh.trans b.hh,λc o h=>(b.fr c o h).elim (a.fr c o) λn=>.inr (n.imp (λn=>a.hh.free n) id),b.fh⟩
theorem Own.ne(h:Own K F H a p):∃ o,H a=some o:=by
 cases p with
 |lst l=>obtain⟨xs,e,_⟩:=h;exact⟨_,e⟩
 |dk l=>obtain⟨xs,e,_⟩:=h;exact⟨_,e⟩
 |dt l=>obtain⟨xs,e,_⟩:=h;exact⟨_,e⟩
 |_=>exact h.elim
theorem Own.qJ{ys:List V}(h:Own K F H a p)(e:H a=some (.tup ys)):False:=by
 cases p with
 |lst l=>obtain⟨xs,e',_⟩:=h;rw[e] at e';cases e'
 |dk l=>obtain⟨xs,e',_⟩:=h;rw[e] at e';cases e'
 |dt l=>obtain⟨xs,e',_⟩:=h;rw[e] at e';cases e'
 |_=>exact h.elim
theorem RD.up{P:Nat->Addr->Prop}(d:RD K C F H σ ρ P)(u:Up F H F' H'):RD K C F' H' σ ρ P where
 own:=λi b q=>by
  obtain⟨a1,⟨o',a2,a3⟩,a4⟩:=d.own i b q;refine⟨?_,⟨o',u.hh _ _ a2,a3⟩,a4⟩;cases e:F' b with
  |none=>rfl
  |some o=>
   rcases u.fr b o e with z|z|⟨ys,z⟩
   ·rw[a1] at z;cases z
   ·rw[a2] at z;cases z
   ·subst z;have w:=u.fh _ _ e;rw[u.hh _ _ a2] at w;cases w;exact absurd rfl (a3 ys)
 dis:=d.dis
 ow:=d.ow
 dp:=λi p e=>let⟨v,e1,e2⟩:=d.dp i p e;⟨v,e1,e2.up u.ff (λb o _ q=>u.hh b o q) λb ys q=>u.hh b _ q⟩
theorem Own.up(h:Own K F H a p)(sf:aL F F')(sh:∀ o,H a=some o->H' a=some o):Own K F' H' a p:=by
 cases p with
 |lst l=>obtain⟨xs,e,r⟩:=h;exact⟨xs,sh _ e,r.up sf⟩
 |dk l=>obtain⟨xs,e,r,q⟩:=h;exact⟨xs,sh _ e,r,λj x p a b=>(q j x p a b).up sf⟩
 |dt l=>obtain⟨xs,e,r,q⟩:=h;exact⟨xs,sh _ e,r,λj x p a b=>(q j x p a b).up sf⟩
 |_=>exact h.elim
theorem Own.frozen(h:Own K F H a p)(hn:F a=none):∃ o,H a=some o/\Rep K (upd F a o) (.ref a) p:=by
 have s:∀ o,aL F (upd F a o):=λo=>eZ hn;cases p with
 |lst l=>obtain⟨xs,e,r⟩:=h;exact⟨_,e,.lst (SqL.of aP) r.1 (r.up (s _)).2⟩
 |dk l=>obtain⟨xs,e,r,q⟩:=h;exact⟨_,e,.dk (.inl aP) r λj x p a b=>(q j x p a b).up (s _)⟩
 |dt l=>obtain⟨xs,e,r,q⟩:=h;exact⟨_,e,.dt (.inl aP) r λj x p a b=>(q j x p a b).up (s _)⟩
 |_=>exact h.elim
theorem Own.lent(h:Own K F H a p)(s:aL F H):Rep K H (.ref a) p:=by
 cases p with
 |lst l=>obtain⟨xs,e,r⟩:=h;exact .lst (SqL.of e) r.1 (r.up s).2
 |dk l=>obtain⟨xs,e,r,q⟩:=h;exact .dk (.inl e) r λj x p a b=>(q j x p a b).up s
 |dt l=>obtain⟨xs,e,r,q⟩:=h;exact .dt (.inl e) r λj x p a b=>(q j x p a b).up s
 |_=>exact h.elim
theorem RB.up(h:RB C F H)(u:Up F H F' H'):RB C F' H' where
 sub:=u.fh
 keep:=λb o e n=>u.hh _ _ (h.keep b o e n)
 new:=λb o e=>(u.fr b o e).elim (h.new b o) λn=>.inr (n.imp (λn=>by
  cases q:C.H0 b with
  |none=>rfl
  |some o'=>
   by_cases hi:C.io b
   ·exact absurd n (h.ios b hi).1
   ·rw[h.keep b o' q hi] at n;cases n) id)
 ios:=λb hb=>⟨λn=>(h.ios b hb).1 (u.hh.free n),(h.ios b hb).2⟩
theorem RB.qK(h:RB C F H){b:Addr}(n:H b=none):C.H0 b=none:=by
 cases q:C.H0 b with
 |none=>rfl
 |some o'=>
  by_cases hi:C.io b
  ·exact absurd n (h.ios b hi).1
  ·rw[h.keep b o' q hi] at n;cases n
theorem RE.up(h:RE K C F H σ ρ)(u:Up F H F' H'):RE K C F' H' σ ρ where
 rb:=h.rb.up u
 len:=h.len
 sh:=λi p e=>let⟨v,e1,e2⟩:=h.sh i p e;⟨v,e1,e2.up u.ff⟩
 ow:=λi p e=>by
  obtain⟨a,e1,e2,e3,e4⟩:=h.ow i p e;refine⟨a,e1,e2.up u.ff λo q=>u.hh _ _ q,?_,e4⟩;cases q:F' a with
  |none=>rfl
  |some o=>
   obtain⟨o',eo⟩:=e2.ne;rcases u.fr a o q with z|z|⟨ys,z⟩
   ·rw[e3] at z;cases z
   ·rw[eo] at z;cases z
   ·subst z;exact absurd (u.fh _ _ q) (λw=>by rw[u.hh _ _ eo] at w;cases w;exact e2.qJ eo)
 dis:=h.dis
 dd:=let⟨P,d⟩:=h.dd;⟨P,d.up u⟩
theorem get_set{α:Type}{l:List α}{i j:Nat}{x y:α}(h:(l.set i x)[j]?=some y):(i=j/\x=y)\/(i≠j/\l[j]?=some y):=by
 rw[Zbq] at h;by_cases e:i=j
 ·subst e;rw[Zae rfl] at h;split at h
  ·exact .inl ⟨rfl,Zaa h⟩
  ·cases h
 ·rw[Zaf e] at h;exact .inr ⟨e,h⟩
theorem cg{α:Type}{l:List α}{j:Nat}{y:α}(h:l[j]?=some y):j<l.length:=(Zar.mp h).1
theorem RE.set(h:RE K C F H σ ρ)(i:Nat)(r:Rep K F v p):RE K C F H (σ.set i (some v)) (ρ.set i (some (.sh p))) where
 rb:=h.rb
 len:=by simp[h.len]
 sh:=λj q e=>by
  rcases get_set e with⟨e1,e2⟩|⟨e1,e2⟩
  ·subst e1;cases e2;have:=cg e;exact⟨v,by rw[ZaE (by rw[h.len];simpa using this)],r⟩
  ·obtain⟨w,e3,e4⟩:=h.sh j q e2;exact⟨w,by rw[Zac e1];exact e3,e4⟩
 ow:=λj q e=>by
  rcases get_set e with⟨e1,e2⟩|⟨e1,e2⟩
  ·cases e2
  ·obtain⟨w,e3,e4⟩:=h.ow j q e2;exact⟨w,by rw[Zac e1];exact e3,e4⟩
 dis:=λj k q q' a e e' f f'=>by
  rcases get_set e with⟨e1,e2⟩|⟨e1,e2⟩
  ·cases e2
  ·rcases get_set e' with⟨e1',e2'⟩|⟨e1',e2'⟩
   ·cases e2'
   ·rw[Zac e1] at f;rw[Zac e1'] at f';exact h.dis j k q q' a e2 e2' f f'
 dd:=let⟨P,d⟩:=h.dd;⟨P,d.own,d.dis,λj k q b z e f=>by
   rcases get_set e with⟨e1,e2⟩|⟨e1,e2⟩
   ·cases e2
   ·rw[Zac e1] at f;exact d.ow j k q b z e2 f,λj q e=>by
   rcases get_set e with⟨e1,e2⟩|⟨e1,e2⟩
   ·cases e2
   ·obtain⟨w,e3,e4⟩:=d.dp j q e2;exact⟨w,by rw[Zac e1];exact e3,e4⟩⟩
theorem RE.Uh(h:RE K C F H σ ρ)(i:Nat)(r:Own K F H a p)(hn:F a=none)(nw:C.nw)(h0:C.H0 a=none)(ha:∀ (j:Nat) q,ρ[j]?=some (some (.ow q))->j≠i->σ[j]?≠some (some (.ref a)))(hd:∃ P,RD K C F H σ ρ P/\∀ j,¬P j a) :
  RE K C F H (σ.set i (some (.ref a))) (ρ.set i (some (.ow p))) where
 rb:=h.rb
 len:=by simp[h.len]
 sh:=λj q e=>by
  rcases get_set e with⟨e1,e2⟩|⟨e1,e2⟩
  ·cases e2
  ·obtain⟨w,e3,e4⟩:=h.sh j q e2;exact⟨w,by rw[Zac e1];exact e3,e4⟩
 ow:=λj q e=>by
  rcases get_set e with⟨e1,e2⟩|⟨e1,e2⟩
  ·subst e1;cases e2;have:=cg e;exact⟨a,by rw[ZaE (by rw[h.len];simpa using this)],r,hn,.inr ⟨nw,h0⟩⟩
  ·obtain⟨w,e3,e4⟩:=h.ow j q e2;exact⟨w,by rw[Zac e1];exact e3,e4⟩
 dis:=λj k q q' b e e' f f'=>by
  rcases get_set e with⟨e1,e2⟩|⟨e1,e2⟩
  ·rcases get_set e' with⟨e1',e2'⟩|⟨e1',e2'⟩
   ·exact e1.symm.trans e1'
   ·subst e1;have:=cg e;rw[ZaE (by rw[h.len];simpa using this)] at f
    cases f;rw[Zac e1'] at f';exact absurd f' (ha k q' e2' (ZaS e1'))
  ·rcases get_set e' with⟨e1',e2'⟩|⟨e1',e2'⟩
   ·subst e1';have:=cg e';rw[ZaE (by rw[h.len];simpa using this)] at f'
    cases f';rw[Zac e1] at f;exact absurd f (ha j q e2 (ZaS e1))
   ·rw[Zac e1] at f;rw[Zac e1'] at f';exact h.dis j k q q' b e2 e2' f f'
 dd:=let⟨P,d,na⟩:=hd;⟨P,d.own,d.dis,λj k q b z e f=>by
   rcases get_set e with⟨e1,e2⟩|⟨e1,e2⟩
   ·subst e1;have:=cg e;rw[ZaE (by rw[h.len];simpa using this)] at f
    cases f;exact na j z
   ·rw[Zac e1] at f;exact d.ow j k q b z e2 f,λj q e=>by
   rcases get_set e with⟨e1,e2⟩|⟨e1,e2⟩
   ·cases e2
   ·obtain⟨w,e3,e4⟩:=d.dp j q e2;exact⟨w,by rw[Zac e1];exact e3,e4⟩⟩
theorem RE.QT(h:RE K C F H σ ρ)(n:H a=none)(u:Up F H F' H'):∃ P,RD K C F' H' σ ρ P/\∀ j,¬P j a:=by
 obtain⟨P,d⟩:=h.dd;exact⟨P,d.up u,λj z=>by obtain⟨_,⟨o,e,_⟩,_⟩:=d.own j a z;rw[n] at e;cases e⟩
theorem RE.apart(h:RE K C F H σ ρ)(n:H a=none)(j:Nat)(q:PV)(e:ρ[j]?=some (some (.ow q))):σ[j]?≠some (some (.ref a)):=λf=>by
 obtain⟨b,e1,e2,_⟩:=h.ow j q e;rw[e1] at f;cases f;obtain⟨o,eo⟩:=e2.ne;rw[eo] at n;cases n
theorem RE.write(h:RE K C F H σ ρ){i:Nat}{o:HO}{p':PV}(e:ρ[i]?=some (some (.ow p)))(ea:σ[i]?=some (some (.ref a)))(r:Own K F (upd H a o) a p') :
  RE K C F (upd H a o) σ (ρ.set i (some (.ow p'))):=by
 obtain⟨a',e1,e2,e3,e4⟩:=h.ow i p e;rw[ea] at e1;cases e1;have ne:∀ b u,F b=some u->b≠a:=λb u q z=>by rw[z,e3] at q;cases q
 refine⟨⟨λb u q=>by rw[aM (ne b u q)];exact h.rb.sub b u q,λb u q n=>?_,h.rb.new,λb hb=>⟨?_,(h.rb.ios b hb).2⟩⟩,by simp[h.len],λj q f=>?_,λj q f=>?_,λj k q q' b f f' g g'=>?_,?_⟩
 ·have:b≠a:=λz=>by
   subst z;rcases e4 with z|z
   ·exact n z
   ·rw[z.2] at q;cases q
  rw[aM this];exact h.rb.keep b u q n
 ·by_cases hba:b=a
  ·subst hba;rw[aP];simp
  ·rw[aM hba];exact(h.rb.ios b hb).1
 ·rcases get_set f with⟨e1,f2⟩|⟨e1,f2⟩
  ·cases f2
  ·exact h.sh j q f2
 ·rcases get_set f with⟨e1,f2⟩|⟨e1,f2⟩
  ·subst e1;cases f2;exact⟨a,ea,r,e3,e4⟩
  ·obtain⟨b,g1,g2,g3,g4⟩:=h.ow j q f2;refine⟨b,g1,g2.up (aL.refl _) λu qq=>?_,g3,g4⟩;have:b≠a:=λz=>by subst z;exact e1 (h.dis i j p q b e f2 ea g1)
   rw[aM this];exact qq
 ·have key:∀ (j:Nat) q,(ρ.set i (some (Sl.ow p')))[j]?=some (some (.ow q))->∃ q0,ρ[j]?=some (some (.ow q0)):=λj q f=>by
   rcases get_set f with⟨e1,f2⟩|⟨e1,f2⟩
   ·subst e1;exact⟨p,e⟩
   ·exact⟨q,f2⟩
  obtain⟨q0,k0⟩:=key j q f;obtain⟨q1,k1⟩:=key k q' f';exact h.dis j k q0 q1 b k0 k1 g g'
 ·obtain⟨P,d⟩:=h.dd;have na:∀ j b,P j b->b≠a:=λj b z e'=>by subst e';exact d.ow j i p b z e ea
  refine⟨P,λj b z=>?_,d.dis,λj k q b z f g=>?_,λj q f=>?_⟩
  ·rw[aM (na j b z)];exact d.own j b z
  ·rcases get_set f with⟨f1,f2⟩|⟨f1,f2⟩
   ·subst f1;exact d.ow j i p b z e g
   ·exact d.ow j k q b z f2 g
  ·rcases get_set f with⟨f1,f2⟩|⟨f1,f2⟩
   ·cases f2
   ·obtain⟨w,e3,e5⟩:=d.dp j q f2;exact⟨w,e3,e5.up (aL.refl _) (λb o z q=>by rw[aM (na j b z)];exact q) λb ys q=>by rw[aM λz=>by subst z;exact e2.qJ q];exact q⟩
theorem RE.frz(h:RE K C F H σ ρ){i:Nat}(e:ρ[i]?=some (some (.ow p)))(hio:∀ a,σ[i]?=some (some (.ref a))->¬C.io a):∃ F',aL F F'/\RE K C F' H σ (ρ.set i (some (.sh p))):=by
 obtain⟨a,e1,e2,e3,e4⟩:=h.ow i p e;obtain⟨o,eo,r⟩:=e2.frozen e3;have h0:C.H0 a=none:=(e4.resolve_left (hio a e1)).2;have sf:aL F (upd F a o):=eZ e3;have li:=cg e;refine⟨upd F a o,sf,⟨⟨λb u q=>?_,h.rb.keep,λb u q=>?_,h.rb.ios⟩,by simp[h.len],λj q f=>?_,λj q f=>?_,λj k q q' b f f' g g'=>?_,?_⟩⟩
 ·by_cases hb:b=a
  ·subst hb;rw[aP] at q;cases q;exact eo
  ·rw[aM hb] at q;exact h.rb.sub b u q
 ·by_cases hb:b=a
  ·subst hb;exact .inr (.inl h0)
  ·rw[aM hb] at q;exact h.rb.new b u q
 ·rcases get_set f with⟨f1,f2⟩|⟨f1,f2⟩
  ·subst f1;cases f2;exact⟨_,e1,r⟩
  ·obtain⟨v,g1,g2⟩:=h.sh j q f2;exact⟨v,g1,g2.up sf⟩
 ·rcases get_set f with⟨f1,f2⟩|⟨f1,f2⟩
  ·cases f2
  ·obtain⟨b,g1,g2,g3,g4⟩:=h.ow j q f2;refine⟨b,g1,g2.up sf λ_ z=>z,?_,g4⟩;have:b≠a:=λz=>by subst z;exact f1 (h.dis i j p q b e f2 e1 g1)
   rw[aM this];exact g3
 ·rcases get_set f with⟨f1,f2⟩|⟨f1,f2⟩
  ·cases f2
  ·rcases get_set f' with⟨f1',f2'⟩|⟨f1',f2'⟩
   ·cases f2'
   ·exact h.dis j k q q' b f2 f2' g g'
 ·obtain⟨P,d⟩:=h.dd;have na:∀ j b,P j b->b≠a:=λj b z e'=>by subst e';exact d.ow j i p b z e e1
  refine⟨P,λj b z=>?_,d.dis,λj k q b z f g=>?_,λj q f=>?_⟩
  ·rw[aM (na j b z)];exact d.own j b z
  ·rcases get_set f with⟨f1,f2⟩|⟨f1,f2⟩
   ·cases f2
   ·exact d.ow j k q b z f2 g
  ·rcases get_set f with⟨f1,f2⟩|⟨f1,f2⟩
   ·cases f2
   ·obtain⟨w,e3,e5⟩:=d.dp j q f2;exact⟨w,e3,e5.up sf (λ_ _ _ q=>q) λ_ _ q=>q⟩
end
structure Cg extends Cf where
 XR:Hp->Value->Option Addr->PV->Prop
def PX(C:Cg)(F:Hp)(z:PV):Prop:=∀ e d F' H',aL F F'->RB C.toCf F' H'->C.XR F' e d z->C.E e d H'
def Pr{α:Type}(C:Cg)(F:Hp)(ok:α->Prop):Res α->Prop
 |.ok a=>ok a
 |.ex z=>PX C F z
noncomputable abbrev Rel(α:Type):=Hp->Hp->V->α->Prop
def aF(K:PySem.W.Frag):Rel PV:=λF _ v p=>Rep K F v p
def aH(K:PySem.W.Frag):Rel PV:=λ_ H v p=>Rep K H v p
def aV(K:PySem.W.Frag):Rel (List PV):=λF H v l=>∃ a xs,v=.ref a/\SqL K H a xs/\bz K F xs l
def UpM{α:Type}(A:Rel α):Prop:=∀ F H F' H' v a,Up F H F' H'->A F H v a->A F' H' v a
theorem aF.up{K:PySem.W.Frag}:UpM (aF K):=λ_ _ _ _ _ _ u h=>Rep.up h u.ff
theorem aH.up{K:PySem.W.Frag}:UpM (aH K):=λ_ _ _ _ _ _ u h=>Rep.up h u.hh
theorem aV.up{K:PySem.W.Frag}:UpM (aV K):=λ_ _ _ _ _ _ u h=>let⟨a,xs,e,s,r⟩:=h;⟨a,xs,e,u.hh.seq s,r.up u.ff⟩
noncomputable abbrev Fn(α:Type):=Rho->Option (Res α)
def MJ{α:Type}(K:PySem.W.Frag)(C:Cg)(A:Rel α)(te:TE)(f:Fn α):Prop:=
 ∀ F H σ ρ Q r,RE K C.toCf F H σ ρ->f ρ=some r->Pr C F (λa=>∀ v F' H',Up F H F' H'->A F' H' v a->Q v H') r->te σ H Q
def MT(K:PySem.W.Frag)(C:Cg)(tt:TT)(f:Fn Bool):Prop:=
 ∀ F H σ ρ Q r,RE K C.toCf F H σ ρ->f ρ=some r->Pr C F (λb=>∀ F' H',Up F H F' H'->Q b H') r->tt σ H Q
def MA(K:PySem.W.Frag)(C:Cg)(ta:TA)(f:Fn (List PV)):Prop:=
 ∀ F H σ ρ Q r,RE K C.toCf F H σ ρ->f ρ=some r->Pr C F (λl=>∀ xs F' H',Up F H F' H'->bz K F' xs l->Q xs H') r->ta σ H Q
def MAL(K:PySem.W.Frag)(C:Cg)(ta:TA)(f:Fn (List PV)):Prop:=
 ∀ F H σ ρ Q r,RE K C.toCf F H σ ρ->f ρ=some r->Pr C F (λl=>∀ xs F' H',Up F H F' H'->bz K H' xs l->Q xs H') r->ta σ H Q
def MO(K:PySem.W.Frag)(C:Cg)(te:TE)(f:Fn PV):Prop:=
 ∀ F H σ ρ Q r,RE K C.toCf F H σ ρ->f ρ=some r->Pr C F (λp=>∀ a F' H',Up F H F' H'->H a=none->F' a=none->Own K F' H' a p->Q (.ref a) H') r->te σ H Q
theorem bx{α β:Type}{x:Option (Res α)}{k:α->Option (Res β)}{r:Res β}(h:bnd x k=some r):(∃ z,x=some (.ex z)/\r=.ex z)\/∃ a,x=some (.ok a)/\k a=some r:=by
 match x,h with
 |some (.ok a),h=>exact .inr ⟨a,rfl,h⟩
 |some (.ex z),h=>exact .inl ⟨z,rfl,(Zaa h).symm⟩
theorem PX.up{C:Cg}{F F1:Hp}{z:PV}(h:PX C F z)(s:aL F F1):PX C F1 z:=λe d F' H' a b c=>h e d F' H' (s.trans a) b c
theorem Pr.mono{α:Type}{C:Cg}{F F1:Hp}{ok ok':α->Prop}{r:Res α}(h:Pr C F ok r)(s:aL F F1)(k:∀ a,ok a->ok' a):Pr C F1 ok' r:=by
 cases r with
 |ok a=>exact k a h
 |ex z=>exact PX.up h s
section
variable{K:PySem.W.Frag}{C:Cg}{α β γ:Type}{A:Rel α}{B:Rel β}{D:Rel γ}{ta tb:TE}{f:Fn α}{g:Fn β}{F H:Hp}{σ:St}{ρ:Rho}{Q:VK}
theorem MJ.run{ok:β->Prop}{k:α->Option (Res β)}{r:Res β}(h:MJ K C A ta f)(R:RE K C.toCf F H σ ρ)(hb:bnd (f ρ) k=some r)(P:Pr C F ok r)
  (go:∀ p v F1 H1,k p=some r->Up F H F1 H1->A F1 H1 v p->Q v H1):ta σ H Q:=by
 rcases bx hb with⟨z,e,rfl⟩|⟨p,e,hk⟩
 ·exact h F H σ ρ Q _ R e P
 ·exact h F H σ ρ Q _ R e λv F1 H1 u a=>go p v F1 H1 hk u a
theorem MT.run{tt:TT}{f:Fn Bool}{Q:Bool->Hp->Prop}{ok:β->Prop}{k:Bool->Option (Res β)}{r:Res β}(h:MT K C tt f)(R:RE K C.toCf F H σ ρ)(hb:bnd (f ρ) k=some r)(P:Pr C F ok r)
  (go:∀ b F1 H1,k b=some r->Up F H F1 H1->Q b H1):tt σ H Q:=by
 rcases bx hb with⟨z,e,rfl⟩|⟨p,e,hk⟩
 ·exact h F H σ ρ Q _ R e P
 ·exact h F H σ ρ Q _ R e λF1 H1 u=>go p F1 H1 hk u
theorem MA.run{t:TA}{f:Fn (List PV)}{Q:List V->Hp->Prop}{ok:β->Prop}{k:List PV->Option (Res β)}{r:Res β}(h:MA K C t f)(R:RE K C.toCf F H σ ρ)(hb:bnd (f ρ) k=some r)(P:Pr C F ok r)
  (go:∀ l xs F1 H1,k l=some r->Up F H F1 H1->bz K F1 xs l->Q xs H1):t σ H Q:=by
 rcases bx hb with⟨z,e,rfl⟩|⟨p,e,hk⟩
 ·exact h F H σ ρ Q _ R e P
 ·exact h F H σ ρ Q _ R e λxs F1 H1 u a=>go p xs F1 H1 hk u a
theorem MO.run{f:Fn PV}{ok:β->Prop}{k:PV->Option (Res β)}{r:Res β}(h:MO K C ta f)(R:RE K C.toCf F H σ ρ)(hb:bnd (f ρ) k=some r)(P:Pr C F ok r)
  (go:∀ p a F1 H1,k p=some r->Up F H F1 H1->H a=none->F1 a=none->Own K F1 H1 a p->Q (.ref a) H1):ta σ H Q:=by
 rcases bx hb with⟨z,e,rfl⟩|⟨p,e,hk⟩
 ·exact h F H σ ρ Q _ R e P
 ·exact h F H σ ρ Q _ R e λa F1 H1 u h1 h2 h3=>go p a F1 H1 hk u h1 h2 h3
theorem Pr.later{D:Rel γ}{r:Res γ}{F1 H1:Hp}(P:Pr C F (λa=>∀ v F' H',Up F H F' H'->D F' H' v a->Q v H') r)(u:Up F H F1 H1):Pr C F1 (λa=>∀ v F' H',Up F1 H1 F' H'->D F' H' v a->Q v H') r:=
 P.mono u.ff λ_ h v F' H' u' d=>h v F' H' (u.trans u') d
theorem Pr.QV{Q:Bool->Hp->Prop}{r:Res Bool}{F1 H1:Hp}(P:Pr C F (λb=>∀ F' H',Up F H F' H'->Q b H') r)(u:Up F H F1 H1):Pr C F1 (λb=>∀ F' H',Up F1 H1 F' H'->Q b H') r:=
 P.mono u.ff λ_ h F' H' u'=>h F' H' (u.trans u')
theorem Pr.pW{r:Res PV}{F1 H1:Hp}(P:Pr C F (λp=>∀ a F' H',Up F H F' H'->H a=none->F' a=none->Own K F' H' a p->Q (.ref a) H') r)(u:Up F H F1 H1) :
  Pr C F1 (λp=>∀ a F' H',Up F1 H1 F' H'->H1 a=none->F' a=none->Own K F' H' a p->Q (.ref a) H') r:=
 P.mono u.ff λ_ h a F' H' u' n1 n2 d=>h a F' H' (u.trans u') (u.hh.free n1) n2 d
theorem Pr.QW{Q:List V->Hp->Prop}{r:Res (List PV)}{F1 H1:Hp}(P:Pr C F (λl=>∀ xs F' H',Up F H F' H'->bz K F' xs l->Q xs H') r)(u:Up F H F1 H1):Pr C F1 (λl=>∀ xs F' H',Up F1 H1 F' H'->bz K F' xs l->Q xs H') r:=
 P.mono u.ff λ_ h xs F' H' u' d=>h xs F' H' (u.trans u') d
def mV(i:Nat):Fn PV:=λρ=>match ρ[i]? with
 |some (some (.sh p))=>some (.ok p)
 |_=>none
theorem ao(i:Nat):MJ K C (aF K) (jx i) (mV i):=by
 intro F H σ ρ Q r R e P;unfold mV at e;split at e
 ·rename_i p hp;cases e;obtain⟨v,e1,e2⟩:=R.sh i p hp;exact⟨v,e1,P v F H (Up.refl R.rb.sub) e2⟩
 ·cases e
def mVL(i:Nat):Fn PV:=λρ=>match ρ[i]? with
 |some (some (.sh p))=>some (.ok p)
 |some (some (.ow p))=>some (.ok p)
 |_=>none
theorem bQ(i:Nat):MJ K C (aH K) (jx i) (mVL i):=by
 intro F H σ ρ Q r R e P;unfold mVL at e;split at e
 ·rename_i p hp;cases e;obtain⟨v,e1,e2⟩:=R.sh i p hp;exact⟨v,e1,P v F H (Up.refl R.rb.sub) (e2.up R.rb.sub)⟩
 ·rename_i p hp;cases e;obtain⟨a,e1,e2,e3,_⟩:=R.ow i p hp;exact⟨_,e1,P _ F H (Up.refl R.rb.sub) (e2.lent R.rb.sub)⟩
 ·cases e
def qL:PV->Option (Res (List PV))
 |.lst l=>some (.ok l)
 |_=>none
theorem Eh{f:Fn PV}(h:MJ K C (aF K) ta f):MJ K C (aV K) ta (λρ=>bnd (f ρ) qL):=by
 intro F H σ ρ Q r R e P;refine h.run R e P λp v F1 H1 hk u a=>?_
 match p,hk with
 |.lst l,hk=>
  cases hk;obtain⟨b,xs,rfl,s,rr⟩:=Rep.cH a;exact P _ F1 H1 u ⟨b,xs,rfl,u.fh.seq s,rr⟩
theorem fZ(i:Nat):MJ K C (aV K) (jx i) (λρ=>bnd (mVL i ρ) qL):=by
 intro F H σ ρ Q r R e P;rcases bx e with⟨z,e1,rfl⟩|⟨p,e1,hk⟩
 ·unfold mVL at e1;split at e1<;>cases e1
 ·unfold mVL at e1
  match p,hk with
  |.lst l,hk=>
   cases hk;split at e1
   ·rename_i q hq;cases e1;obtain⟨v,e2,e3⟩:=R.sh i _ hq;obtain⟨b,xs,rfl,s,rr⟩:=Rep.cH e3;exact⟨_,e2,P _ F H (Up.refl R.rb.sub) ⟨b,xs,rfl,R.rb.sub.seq s,rr⟩⟩
   ·rename_i q hq;cases e1;obtain⟨a,e2,⟨xs,e3,rr⟩,_⟩:=R.ow i _ hq;exact⟨_,e2,P _ F H (Up.refl R.rb.sub) ⟨a,xs,rfl,SqL.of e3,rr⟩⟩
   ·cases e1
theorem cz{f:Fn PV}(h:MJ K C (aF K) ta f):MJ K C (aH K) ta f:=by
 intro F H σ ρ Q r R e P;refine h F H σ ρ Q r R e ?_;exact P.mono (aL.refl _) λ_ k v F' H' u d=>k v F' H' u (Rep.up d u.fh)
def mC(p:PV):Fn PV:=λ_=>some (.ok p)
theorem JB{v:V}{p:PV}(h:∀ F,Rep K F v p):MJ K C (aF K) (tC v) (mC p):=by
 intro F H σ ρ Q r R e P;cases e;exact P v F H (Up.refl R.rb.sub) (h F)
theorem aq{i:Int}:MJ K C (aF K) (tC (.int i)) (mC (.int i)):=JB λ_=>.int
theorem gb{i:Bool}:MJ K C (aF K) (tC (.bl i)) (mC (.bl i)):=JB λ_=>.bl
theorem bC{i:Str}:MJ K C (aF K) (tC (.str i)) (mC (.str i)):=JB λ_=>.str
theorem Ci:MJ K C (aF K) (tC .non) (mC .non):=JB λ_=>.non
theorem zf{n:String}:MJ K C (aF K) (tC (.ty n)) (mC (.ty n)):=JB λ_=>.ty
theorem d9{f:Fn PV}(h:MO K C ta f):MJ K C (aF K) ta f:=by
 intro F H σ ρ Q r R e P;refine h F H σ ρ Q r R e (P.mono (aL.refl _) λp k a F' H' u n1 n2 o=>?_);obtain⟨ob,eo,rr⟩:=o.frozen n2;refine k _ (upd F' a ob) H' ⟨u.ff.trans (eZ n2),u.hh,λb x q=>?_,λb x q=>?_⟩ rr
 ·by_cases hb:b=a
  ·subst hb;exact .inr (.inl n1)
  ·rw[aM hb] at q;exact u.fr b x q
 ·by_cases hb:b=a
  ·subst hb;rw[aP] at q;cases q;exact eo
  ·rw[aM hb] at q;exact u.fh b x q
theorem gF{f:Fn PV}(h:MO K C ta f):MJ K C (aV K) ta (λρ=>bnd (f ρ) qL):=Eh (d9 h)
def m2{α β γ:Type}(op:α->β->Option (Res γ))(f:Fn α)(g:Fn β):Fn γ:=λρ=>bnd (f ρ) λa=>bnd (g ρ) λb=>op a b
def R2M(C:Cg)(A:Rel α)(B:Rel β)(D:Rel γ)(r:R2)(op:α->β->Option (Res γ)):Prop:=
 ∀ F H x y a b res Q,aL F H->A F H x a->B F H y b->op a b=some res->Pr C F (λc=>∀ v F' H',Up F H F' H'->D F' H' v c->Q v H') res->r x y H Q
theorem aG{op:α->β->Option (Res γ)}{r2:R2}(up:UpM A)(rule:R2M C A B D r2 op)(ha:MJ K C A ta f)(hb:MJ K C B tb g):MJ K C D (tOp r2 ta tb) (m2 op f g):=by
 intro F H σ ρ Q r R e P;refine ha.run R e P λp v F1 H1 hk u a=>?_;refine hb.run (R.up u) hk (P.later u) λq w F2 H2 hk2 u2 b=>?_;exact rule F2 H2 v w p q r Q u2.fh (up _ _ _ _ _ _ u2 a) b hk2 (P.later (u.trans u2))
def R2O(K:PySem.W.Frag)(C:Cg)(A:Rel α)(B:Rel β)(r:R2)(op:α->β->Option (Res PV)):Prop:=
 ∀ F H x y a b res Q,aL F H->A F H x a->B F H y b->op a b=some res->Pr C F (λp=>∀ a F' H',Up F H F' H'->H a=none->F' a=none->Own K F' H' a p->Q (.ref a) H') res->r x y H Q
theorem Ei{op:α->β->Option (Res PV)}{r2:R2}(up:UpM A)(rule:R2O K C A B r2 op)(ha:MJ K C A ta f)(hb:MJ K C B tb g):MO K C (tOp r2 ta tb) (m2 op f g):=by
 intro F H σ ρ Q r R e P;refine ha.run R e P λp v F1 H1 hk u a=>?_;refine hb.run (R.up u) hk (P.pW u) λq w F2 H2 hk2 u2 b=>?_;exact rule F2 H2 v w p q r Q u2.fh (up _ _ _ _ _ _ u2 a) b hk2 (P.pW (u.trans u2))
def m1{α γ:Type}(op:α->Option (Res γ))(f:Fn α):Fn γ:=λρ=>bnd (f ρ) op
def pX(o1 o2:PV->PV->Option (Res PV))(f g h:Fn PV):Fn PV:=λρ=>bnd (f ρ) λa=>bnd (g ρ) λb=>bnd (o1 a b) λz=>match z with
 |.bl true=>bnd (h ρ) λc=>o2 b c
 |.bl false=>some (.ok (.bl false))
 |_=>none
theorem tD{o1 o2:PV->PV->Option (Res PV)}{r r':R2}{tc:TE}{f g h:Fn PV}(r1:R2M C (aF K) (aF K) (aF K) r o1)(r2:R2M C (aF K) (aF K) (aF K) r' o2)(ha:MJ K C (aF K) ta f)(hb:MJ K C (aF K) tb g)(hc:MJ K C (aF K) tc h) :
  MJ K C (aF K) (Bw r r' ta tb tc) (pX o1 o2 f g h):=by
 intro F H σ ρ Q r R e P;refine ha.run R e P λp v F1 H1 hk u a=>?_;refine hb.run (R.up u) hk (P.later u) λq w F2 H2 hk2 u2 b=>?_;rcases bx hk2 with⟨z,e1,rfl⟩|⟨z,e1,hk3⟩
 ·exact r1 F2 H2 v w p q _ _ u2.fh (aF.up _ _ _ _ _ _ u2 a) b e1 (PX.up P (u.trans u2).ff)
 ·refine r1 F2 H2 v w p q _ _ u2.fh (aF.up _ _ _ _ _ _ u2 a) b e1 λvz F3 H3 u3 rz=>?_
  match z,hk3 with
  |.bl true,hk3=>
   cases Rep.cX rz;refine⟨true,rfl,?_⟩;rw[Zae rfl];have u13:=u.trans (u2.trans u3);refine hc.run (R.up u13) hk3 (P.later u13) λc wc F4 H4 hk4 u4 rc=>?_;exact r2 F4 H4 w wc q c _ Q u4.fh (Rep.up b (u3.trans u4).ff) rc hk4 (P.later (u13.trans u4))
  |.bl false,hk3=>
   cases Rep.cX rz;cases hk3;refine⟨false,rfl,?_⟩;rw[Zaf (by decide)]
   exact P _ F3 H3 (u.trans (u2.trans u3)) .bl
def oX(f g:Fn PV):Fn PV:=λρ=>bnd (f ρ) λa=>match a with
 |.bl true=>g ρ
 |.bl false=>some (.ok (.bl false))
 |_=>none
def JC:PV->Option (Res PV)
 |.bl b=>some (.ok (.bl (!b)))
 |_=>none
theorem pY{f g:Fn PV}(ha:MJ K C (aF K) ta f)(hb:MJ K C (aF K) tb g):MJ K C (aF K) (Ox ta tb) (oX f g):=by
 intro F H σ ρ Q r R e P;refine ha.run R e P λp v F1 H1 hk u a=>?_
 match p,hk with
 |.bl true,hk=>
  cases Rep.cX a;refine⟨true,rfl,?_⟩;rw[Zae rfl];exact hb F1 H1 σ ρ Q r (R.up u) hk (P.later u)
 |.bl false,hk=>
  cases Rep.cX a;cases hk;refine⟨false,rfl,?_⟩;rw[Zaf (by decide)]
  exact P _ F1 H1 u .bl
theorem QX{f:Fn PV}(ha:MJ K C (aF K) ta f):MJ K C (aF K) (Oz ta) (m1 JC f):=by
 intro F H σ ρ Q r R e P;refine ha.run R e P λp v F1 H1 hk u a=>?_
 match p,hk with
 |.bl b,hk=>
  cases Rep.cX a;cases hk;exact⟨b,rfl,P _ F1 H1 u .bl⟩
def fj:PV->Option (Res Bool)
 |.bl b=>some (.ok b)
 |_=>none
theorem cI{f:Fn PV}(ha:MJ K C (aF K) ta f):MT K C (DW ta) (m1 fj f):=by
 intro F H σ ρ Q r R e P;refine ha.run R e P λp v F1 H1 hk u a=>?_
 match p,hk with
 |.bl b,hk=>
  cases Rep.cX a;cases hk;exact⟨b,rfl,P F1 H1 u⟩
theorem jO{f:Fn PV}(ha:MJ K C (aF K) ta f):MT K C (tB ta) (m1 fj f):=cI ha
def mOr(f g:Fn Bool):Fn Bool:=λρ=>bnd (f ρ) λa=>if a=true then some (.ok true) else g ρ
def rB(f:Fn Bool):Fn Bool:=λρ=>bnd (f ρ) λa=>some (.ok (!a))
variable{c d:TT}{fc gc:Fn Bool}
theorem Ej(ha:MT K C c fc)(hb:MT K C d gc):MT K C (tOr c d) (mOr fc gc):=by
 intro F H σ ρ Q r R e P;refine ha.run R e P λb F1 H1 hk u=>?_;cases b with
 |true=>rw[Zae rfl] at hk ⊢;cases hk;exact P F1 H1 u
 |false=>rw[Zaf (by decide)] at hk ⊢;exact hb F1 H1 σ ρ Q r (R.up u) hk (P.QV u)
theorem jP(ha:MT K C c fc):MT K C (R4 c) (rB fc):=by
 intro F H σ ρ Q r R e P;refine ha.run R e P λb F1 H1 hk u=>?_;cases hk;exact P F1 H1 u
def mIf{γ:Type}(f:Fn Bool)(g h:Fn γ):Fn γ:=λρ=>bnd (f ρ) λa=>if a=true then g ρ else h ρ
theorem O5{f g:Fn γ}(hc:MT K C c fc)(ha:MJ K C D ta f)(hb:MJ K C D tb g):MJ K C D (tIf c ta tb) (mIf fc f g):=by
 intro F H σ ρ Q r R e P;refine hc.run R e P λb F1 H1 hk u=>?_;cases b with
 |true=>rw[Zae rfl] at hk ⊢;exact ha F1 H1 σ ρ Q r (R.up u) hk (P.later u)
 |false=>rw[Zaf (by decide)] at hk ⊢;exact hb F1 H1 σ ρ Q r (R.up u) hk (P.later u)
def bu:Fn (List PV):=λ_=>some (.ok [])
def aA(f:Fn PV)(g:Fn (List PV)):Fn (List PV):=λρ=>bnd (f ρ) λa=>bnd (g ρ) λl=>some (.ok (a::l))
theorem aJ:MA K C oJ bu:=λF H σ ρ Q r R e P=>by
 cases e;exact P [] F H (Up.refl R.rb.sub) .nil
theorem ak{f:Fn PV}{g:Fn (List PV)}{t:TA}(ha:MJ K C (aF K) ta f)(hb:MA K C t g):MA K C (eY ta t) (aA f g):=by
 intro F H σ ρ Q r R e P;refine ha.run R e P λp v F1 H1 hk u a=>?_;refine hb.run (R.up u) hk (P.QW u) λl xs F2 H2 hk2 u2 b=>?_;cases hk2;exact P _ F2 H2 (u.trans u2) (b.cons (Rep.up a u2.ff))
theorem Up.u9{F H:Hp}{a:Addr}{o:HO}(s:aL F H)(h:H a=none):Up F H F (upd H a o):=⟨aL.refl _,eZ h,λ_ _ q=>.inl q,s.trans (eZ h)⟩
theorem Up.new{F H:Hp}{a:Addr}{o:HO}(s:aL F H)(h:H a=none):Up F H (upd F a o) (upd H a o):=by
 have hf:F a=none:=s.free h;refine⟨eZ hf,eZ h,λb u q=>?_,λb u q=>?_⟩
 ·by_cases hb:b=a
  ·subst hb;exact .inr (.inl h)
  ·rw[aM hb] at q;exact .inl q
 ·by_cases hb:b=a
  ·subst hb;rw[aP] at q ⊢;exact q
  ·rw[aM hb] at q ⊢;exact s b u q
def kW(f:Fn (List PV)):Fn PV:=λρ=>bnd (f ρ) λl=>if l.length<=sizeLine then some (.ok (.tup l)) else none
def jz(f:Fn (List PV)):Fn PV:=λρ=>bnd (f ρ) λl=>if l.length<=sizeLine then some (.ok (.lst l)) else none
theorem fQ{t:TA}{f:Fn (List PV)}(h:MA K C t f):MJ K C (aF K) (LC t) (kW f):=by
 intro F H σ ρ Q r R e P;refine h.run R e P λl xs F1 H1 hk u a=>?_;split at hk
 ·rename_i hl;cases hk;refine⟨by rw[a.1];exact hl,λp hp=>?_⟩
  have un:=Up.new (o:=.tup xs) u.fh hp;exact P _ _ _ (u.trans un) (.tup aP a.1 (a.up un.ff).2)
 ·cases hk
theorem dC{t:TA}{f:Fn (List PV)}(h:MA K C t f):MO K C (Ss t) (jz f):=by
 intro F H σ ρ Q r R e P;refine h.run R e P λl xs F1 H1 hk u a=>?_;split at hk
 ·rename_i hl;cases hk;refine⟨by rw[a.1];exact hl,λp hp=>?_⟩
  exact P _ _ _ (u.trans (Up.u9 u.fh hp)) (u.hh.free hp) (u.fh.free hp) ⟨xs,aP,a⟩
 ·cases hk
def spM(K:PySem.W.Frag)(XR:Hp->Value->Option Addr->PV->Prop)(m:List PV->Option (Res PV)):Sp:=λvs H Q E=>∃ ps F r,aL F H/\bz K F vs ps/\m ps=some r/\match r with
 |.ok p=>∀ v F' H',Up F H F' H'->Rep K F' v p->Q v H'
 |.ex z=>∀ e d F' H',Up F H F' H'->XR F' e d z->E e d H'
def spO(K:PySem.W.Frag)(XR:Hp->Value->Option Addr->PV->Prop)(m:List PV->Option (Res PV)):Sp:=λvs H Q E=>∃ ps F r,aL F H/\bz K F vs ps/\m ps=some r/\match r with
 |.ok p=>∀ a F' H',Up F H F' H'->H a=none->F' a=none->Own K F' H' a p->Q (.ref a) H'
 |.ex z=>∀ e d F' H',Up F H F' H'->XR F' e d z->E e d H'
def cC(m:List PV->Option (Res PV))(f:Fn (List PV)):Fn PV:=λρ=>bnd (f ρ) m
theorem cM{t:TA}{f:Fn (List PV)}{m:List PV->Option (Res PV)}(h:MA K C t f):MJ K C (aF K) (nu (spM K C.XR m) [] C.E t) (cC m f):=by
 intro F H σ ρ Q r R e P;refine h.run R e P λl xs F1 H1 hk u a=>?_;refine⟨l,F1,r,u.fh,by rw[Zaz];exact a,hk,?_⟩
 cases r with
 |ok p=>exact λv F' H' u' rv=>P v F' H' (u.trans u') rv
 |ex z=>exact λe d F' H' u' x=>P e d F' H' (u.trans u').ff (R.rb.up (u.trans u')) x
theorem wX{t:TA}{f:Fn (List PV)}{m:List PV->Option (Res PV)}(h:MA K C t f):MO K C (nu (spO K C.XR m) [] C.E t) (cC m f):=by
 intro F H σ ρ Q r R e P;refine h.run R e P λl xs F1 H1 hk u a=>?_;refine⟨l,F1,r,u.fh,by rw[Zaz];exact a,hk,?_⟩
 cases r with
 |ok p=>exact λv F' H' u' n1 n2 rv=>P v F' H' (u.trans u') (u.hh.free n1) n2 rv
 |ex z=>exact λe d F' H' u' x=>P e d F' H' (u.trans u').ff (R.rb.up (u.trans u')) x
end
inductive Out where
 |nx (ρ:Rho)|rt (p:PV)|ro (p:PV)|rd (p:PV)|bk (ρ:Rho)|ct (ρ:Rho)|ex (z:PV)
noncomputable abbrev Sn:=Rho->Option Out
def PO'(K:PySem.W.Frag)(C:Cg)(F:Hp)(D:Ends):Out->Prop
 |.nx ρ=>∀ F' H' σ,aL F F'->RE K C.toCf F' H' σ ρ->D.nx σ H'
 |.bk ρ=>∀ F' H' σ,aL F F'->RE K C.toCf F' H' σ ρ->D.bk σ H'
 |.ct ρ=>∀ F' H' σ,aL F F'->RE K C.toCf F' H' σ ρ->D.ct σ H'
 |.rt p=>∀ v F' H',aL F F'->RB C.toCf F' H'->Rep K F' v p->D.rt v H'
 |.ro p=>∀ a F' H',aL F F'->RB C.toCf F' H'->Own K F' H' a p->F' a=none->C.H0 a=none->D.rt (.ref a) H'
 |.rd p=>∀ v F' H' S,aL F F'->RB C.toCf F' H'->Dp K F' H' S v p->(∀ b,S b->F' b=none/\(∃ o,H' b=some o/\∀ ys,o≠.tup ys)/\C.H0 b=none)->D.rt v H'
 |.ex z=>PX C F z
def MS(K:PySem.W.Frag)(C:Cg)(t:TS)(f:Sn):Prop:=∀ F H σ ρ D o,RE K C.toCf F H σ ρ->f ρ=some o->PO' K C F D o->t D σ H
def eE{α:Type}(x:Option (Res α))(k:α->Option Out):Option Out:=match x with
 |some (.ok a)=>k a
 |some (.ex z)=>some (.ex z)
 |none=>none
theorem Ms{α:Type}{a:α}{k:α->Option Out}:eE (some (.ok a)) k=k a:=rfl
theorem bR{α:Type}{x:Option (Res α)}{k:α->Option Out}{o:Out}(h:eE x k=some o):(∃ z,x=some (.ex z)/\o=.ex z)\/∃ a,x=some (.ok a)/\k a=some o:=by
 match x,h with
 |some (.ok a),h=>exact .inr ⟨a,rfl,h⟩
 |some (.ex z),h=>exact .inl ⟨z,rfl,(Zaa h).symm⟩
section
variable{K:PySem.W.Frag}{C:Cg}{α:Type}{A:Rel α}{ta tb te:TE}{F H:Hp}{σ:St}{ρ:Rho}{D:Ends}{t u:TS}{f g:Sn}{o:Out}
theorem PO'.up{F1:Hp}(h:PO' K C F D o)(s:aL F F1):PO' K C F1 D o:=by
 cases o with
 |nx ρ=>exact λF' H' σ a=>h F' H' σ (s.trans a)
 |bk ρ=>exact λF' H' σ a=>h F' H' σ (s.trans a)
 |ct ρ=>exact λF' H' σ a=>h F' H' σ (s.trans a)
 |rt p=>exact λv F' H' a=>h v F' H' (s.trans a)
 |ro p=>exact λv F' H' a=>h v F' H' (s.trans a)
 |rd p=>exact λv F' H' S a=>h v F' H' S (s.trans a)
 |ex z=>exact PX.up h s
theorem MJ.jh{fe:Fn α}{Q:VK}{k:α->Option Out}(h:MJ K C A ta fe)(R:RE K C.toCf F H σ ρ)(hb:eE (fe ρ) k=some o)(P:PO' K C F D o)
  (go:∀ p v F1 H1,k p=some o->Up F H F1 H1->A F1 H1 v p->Q v H1):ta σ H Q:=by
 rcases bR hb with⟨z,e,rfl⟩|⟨p,e,hk⟩
 ·exact h F H σ ρ Q _ R e P
 ·exact h F H σ ρ Q _ R e λv F1 H1 u a=>go p v F1 H1 hk u a
theorem MO.jh{fe:Fn PV}{Q:VK}{k:PV->Option Out}(h:MO K C ta fe)(R:RE K C.toCf F H σ ρ)(hb:eE (fe ρ) k=some o)(P:PO' K C F D o)
  (go:∀ p a F1 H1,k p=some o->Up F H F1 H1->H a=none->F1 a=none->Own K F1 H1 a p->Q (.ref a) H1):ta σ H Q:=by
 rcases bR hb with⟨z,e,rfl⟩|⟨p,e,hk⟩
 ·exact h F H σ ρ Q _ R e P
 ·exact h F H σ ρ Q _ R e λa F1 H1 u n1 n2 w=>go p a F1 H1 hk u n1 n2 w
theorem MT.jh{tt:TT}{fe:Fn Bool}{Q:Bool->Hp->Prop}{k:Bool->Option Out}(h:MT K C tt fe)(R:RE K C.toCf F H σ ρ)(hb:eE (fe ρ) k=some o)(P:PO' K C F D o)
  (go:∀ b F1 H1,k b=some o->Up F H F1 H1->Q b H1):tt σ H Q:=by
 rcases bR hb with⟨z,e,rfl⟩|⟨p,e,hk⟩
 ·exact h F H σ ρ Q _ R e P
 ·exact h F H σ ρ Q _ R e λF1 H1 u=>go p F1 H1 hk u
def dw:Sn:=λρ=>some (.nx ρ)
def bA(f g:Sn):Sn:=λρ=>match f ρ with
 |some (.nx ρ')=>g ρ'
 |x=>x
theorem cj:MS K C Iz dw:=λF H σ ρ D o R e P=>by
 cases e;exact P F H σ (aL.refl _) R
theorem aO(h1:MS K C t f)(h2:MS K C u g):MS K C (Gr t u) (bA f g):=by
 intro F H σ ρ D o R e P;unfold bA at e;split at e
 ·rename_i ρ' h;refine h1 F H σ ρ _ _ R h ?_;exact λF' H' σ' s R'=>h2 F' H' σ' ρ' D o R' e (P.up s)
 ·rename_i x hx;cases o with
  |nx ρ'=>exact absurd e (hx ρ')
  |bk ρ=>exact h1 F H σ _ _ _ R e P
  |ct ρ=>exact h1 F H σ _ _ _ R e P
  |rt p=>exact h1 F H σ _ _ _ R e P
  |ro p=>exact h1 F H σ _ _ _ R e P
  |rd p=>exact h1 F H σ _ _ _ R e P
  |ex z=>exact h1 F H σ _ _ _ R e P
def MG(K:PySem.W.Frag)(C:Cg)(g:TG)(tg:PV->Rho->Option Rho):Prop:=
 ∀ F H σ ρ v p ρ' Q,RE K C.toCf F H σ ρ->Rep K F v p->tg p ρ=some ρ'->(∀ σ',RE K C.toCf F H σ' ρ'->Q σ' H)->g v σ H Q
def MGs(K:PySem.W.Frag)(C:Cg)(g:TGs)(tg:List PV->Rho->Option Rho):Prop:=
 ∀ F H σ ρ vs ps ρ' Q,RE K C.toCf F H σ ρ->bz K F vs ps->tg ps ρ=some ρ'->(∀ σ',RE K C.toCf F H σ' ρ'->Q σ' H)->g vs σ H Q
def gN(i:Nat):PV->Rho->Option Rho:=λp ρ=>some (ρ.set i (some (.sh p)))
theorem aN(i:Nat):MG K C (qC i) (gN i):=λF H σ ρ v p ρ' Q R r e k=>by
 cases e;exact k _ (R.set i r)
def gsNil:List PV->Rho->Option Rho
 |[],ρ=>some ρ
 |_::_,_=>none
def gsCons(t:PV->Rho->Option Rho)(u:List PV->Rho->Option Rho):List PV->Rho->Option Rho
 |[],_=>none
 |p::l,ρ=>match t p ρ with
  |some ρ'=>u l ρ'
  |none=>none
def gT(n:Nat)(t:List PV->Rho->Option Rho):PV->Rho->Option Rho:=λp ρ=>match p with
 |.tup l=>if l.length=n then t l ρ else none
 |_=>none
def cP(fe:Fn PV)(tg:PV->Rho->Option Rho):Sn:=λρ=>eE (fe ρ) λp=>match tg p ρ with
 |some ρ'=>some (.nx ρ')
 |none=>none
theorem bD{fe:Fn PV}{gt:TG}{tg:PV->Rho->Option Rho}(h:MJ K C (aF K) te fe)(hg:MG K C gt tg):MS K C (wG te gt) (cP fe tg):=by
 intro F H σ ρ D o R e P;refine h.jh R e P λp v F1 H1 hk u a=>?_;split at hk
 ·rename_i ρ' h1;cases hk;exact hg F1 H1 σ ρ v p ρ' _ (R.up u) a h1 λσ' R'=>P F1 H1 σ' u.ff R'
 ·cases hk
def tE(i:Nat)(fe:Fn PV):Sn:=λρ=>eE (fe ρ) λp=>some (.nx (ρ.set i (some (.ow p))))
theorem rJ{i:Nat}{fe:Fn PV}(nw:C.nw)(h:MO K C te fe):MS K C (wG te (qC i)) (tE i fe):=by
 intro F H σ ρ D o R e P;refine h.jh R e P λp a F1 H1 hk u n1 n2 w=>?_;cases hk;exact P F1 H1 _ u.ff ((R.up u).Uh i w n2 nw (R.rb.qK n1) (λj q hj _=>R.apart n1 j q hj) (R.QT n1 u))
def oY(fe:Fn PV):Sn:=λρ=>eE (fe ρ) λ_=>some (.nx ρ)
theorem Mt{fe:Fn PV}(h:MJ K C (aF K) te fe):MS K C (qz te) (oY fe):=by
 intro F H σ ρ D o R e P;refine h.jh R e P λp v F1 H1 hk u a=>?_;cases hk;exact P F1 H1 σ u.ff (R.up u)
def eF(fe:Fn PV):Sn:=λρ=>eE (fe ρ) λp=>some (.rt p)
theorem bV{fe:Fn PV}(h:MJ K C (aF K) te fe):MS K C (Gs te) (eF fe):=by
 intro F H σ ρ D o R e P;refine h.jh R e P λp v F1 H1 hk u a=>?_;cases hk;exact P v F1 H1 u.ff (R.rb.up u) a
def tG(fe:Fn PV):Sn:=λρ=>eE (fe ρ) λp=>some (.ro p)
theorem rK{fe:Fn PV}(h:MO K C te fe):MS K C (Gs te) (tG fe):=by
 intro F H σ ρ D o R e P;refine h.jh R e P λp a F1 H1 hk u n1 n2 w=>?_;cases hk;exact P a F1 H1 u.ff (R.rb.up u) w n2 (R.rb.qK n1)
def ownAt(i:Nat)(ρ:Rho):Option PV:=match ρ[i]? with
 |some (some (.ow p))=>some p
 |_=>none
theorem bc{i:Nat}{p:PV}(h:ownAt i ρ=some p):ρ[i]?=some (some (.ow p)):=by
 unfold ownAt at h;split at h
 ·rename_i q hq;cases h;exact hq
 ·cases h
def Cj(i:Nat)(ρ:Rho):Rho:=match ownAt i ρ with
 |some p=>ρ.set i (some (.sh p))
 |none=>ρ
theorem QZ(i:Nat)(hio:∀ a,¬C.io a)(h:MS K C t f):MS K C t (λρ=>f (Cj i ρ)):=by
 intro F H σ ρ D o R e P;have e:f (Cj i ρ)=some o:=e;unfold Cj at e;cases hp:ownAt i ρ with
 |none=>rw[hp] at e;exact h F H σ ρ D o R e P
 |some p=>
  rw[hp] at e;obtain⟨F',s,R'⟩:=R.frz (bc hp) λa _=>hio a;exact h F' H σ _ D o R' e (P.up s)
def GX(i:Nat)(fe:Fn PV):Sn:=λρ=>match ownAt i ρ with
 |some (.lst l)=>eE (fe ρ) λp=>if l.length<sizeLine then some (.nx (ρ.set i (some (.ow (.lst (l++[p])))))) else none
 |_=>none
theorem Q0{i:Nat}{fe:Fn PV}(h:MJ K C (aF K) te fe):MS K C (qz (tBM K "list" wR (jx i) (eY te oJ))) (GX i fe):=by
 intro F H σ ρ D o R e P;unfold GX at e;split at e
 ·rename_i l hl;obtain⟨a,g1,⟨xs,g2,g3⟩,g4,g5⟩:=R.ow i _ (bc hl);refine⟨_,g1,tyL g2,h.jh R e P λp v F1 H1 hk u w=>?_⟩;split at hk
  ·rename_i hlen;cases hk;obtain⟨a',k1,⟨ys,k2,k3⟩,k4,k5⟩:=(R.up u).ow i _ (bc hl);rw[g1] at k1;cases k1;refine⟨a,ys,v,rfl,rfl,k2,by rw[k3.1];exact hlen,?_⟩
   exact P F1 _ σ u.ff ((R.up u).write (bc hl) g1 ⟨_,aP,k3.snoc w⟩)
  ·cases hk
 ·cases e
def Mu(i:Nat)(fe fi:Fn PV):Sn:=λρ=>eE (fe ρ) λp=>match ownAt i ρ with
 |some (.lst l)=>eE (fi ρ) λk=>match k with
  |.int k=>match ixN l.length k with
   |some j=>some (.nx (ρ.set i (some (.ow (.lst (l.set j p))))))
   |none=>none
  |_=>none
 |_=>none
theorem Q3{i:Nat}{fe fi:Fn PV}(h:MJ K C (aF K) te fe)(hi:MJ K C (aF K) tb fi):MS K C (wG te (R6 (jx i) tb O2)) (Mu i fe fi):=by
 intro F H σ ρ D o R e P;refine h.jh R e P λp v F1 H1 hk u a=>?_;split at hk
 ·rename_i l hl;obtain⟨b,g1,_⟩:=R.ow i _ (bc hl);refine⟨_,g1,hi.jh (R.up u) hk (P.up u.ff) λq w F2 H2 hk2 u2 rw'=>?_⟩;split at hk2
  ·rename_i k;split at hk2
   ·rename_i j hj;cases hk2;cases Rep.aX rw';obtain⟨a',k1,⟨ys,k2,k3⟩,k4,k5⟩:=(R.up (u.trans u2)).ow i _ (bc hl);rw[g1] at k1;cases k1;refine⟨b,ys,k,j,rfl,rfl,k2,by rw[k3.1];exact hj,?_⟩
    exact P F2 _ σ (u.trans u2).ff ((R.up (u.trans u2)).write (bc hl) g1 ⟨_,aP,k3.set (Rep.up a u2.ff) j⟩)
   ·cases hk2
  ·cases hk2
 ·cases hk
def gf(fc:Fn Bool)(f g:Sn):Sn:=λρ=>eE (fc ρ) λb=>if b=true then f ρ else g ρ
theorem fu{c:TT}{fc:Fn Bool}(hc:MT K C c fc)(h1:MS K C t f)(h2:MS K C u g):MS K C (Lw c t u) (gf fc f g):=by
 intro F H σ ρ D o R e P;refine hc.jh R e P λb F1 H1 hk uu=>?_;cases b with
 |true=>rw[Zae rfl] at hk ⊢;exact h1 F1 H1 σ ρ D o (R.up uu) hk (P.up uu.ff)
 |false=>rw[Zaf (by decide)] at hk ⊢;exact h2 F1 H1 σ ρ D o (R.up uu) hk (P.up uu.ff)
structure ItR(K:PySem.W.Frag)(J:It)(F:Hp)(l:List PV):Prop where
 stop:∀ F' H',aL F F'->aL F' H'->J.stop l.length H'
 go:∀ i F' H',i<l.length->aL F F'->aL F' H'->J.go i H'
 yld:∀ i F' H' x H'',i<l.length->aL F F'->aL F' H'->J.yld i H' x H''->∃ F'' p,Up F' H' F'' H''/\l[i]?=some p/\Rep K F'' x p
def MI(K:PySem.W.Frag)(C:Cg)(wi:TI)(f:Fn (List PV)):Prop:=
 ∀ F H σ ρ R' r,RE K C.toCf F H σ ρ->f ρ=some r->Pr C F (λl=>∀ J F' H',Up F H F' H'->ItR K J F' l->R' J H') r->wi σ H R'
def loop(tg:PV->Rho->Option Rho)(body:Sn):List PV->Rho->Option Out
 |[],ρ=>some (.nx ρ)
 |x::xs,ρ=>match tg x ρ with
  |none=>none
  |some ρ1=>match body ρ1 with
   |some (.nx ρ2)=>loop tg body xs ρ2
   |some (.ct ρ2)=>loop tg body xs ρ2
   |some (.bk ρ2)=>some (.nx ρ2)
   |x=>x
def wY(it:Fn (List PV))(tg:PV->Rho->Option Rho)(body:Sn):Sn:=λρ=>eE (it ρ) λl=>loop tg body l ρ
theorem vO{J:It}{gt:TG}{tg:PV->Rho->Option Rho}{l:List PV}(hg:MG K C gt tg)(hb:MS K C t f)(hJ:ItR K J F l)(R:RE K C.toCf F H σ ρ)(e:loop tg f l ρ=some o)(P:PO' K C F D o):Ue J gt t D σ H:=by
 refine⟨λi m σ' H'=>∃ F' ρ',m=l.length-i/\i<=l.length/\aL F F'/\RE K C.toCf F' H' σ' ρ'/\loop tg f (l.drop i) ρ'=some o,⟨l.length,F,ρ,by simp,Zbp _,aL.refl _,R,by rw[List.drop_zero];exact e⟩,?_⟩
 rintro i m σ' H' ⟨F',ρ',rfl,hi,s,R',e'⟩;by_cases hlt:i<l.length
 ·refine .inr ⟨hJ.go i F' H' hlt s R'.rb.sub,λσ2 H2=>∃ F2 ρ2,aL F F2/\RE K C.toCf F2 H2 σ2 ρ2/\loop tg f (l.drop (i+1)) ρ2=some o,λσ2 H2 ⟨F2,ρ2,s2,R2,e2⟩=>⟨l.length-(i+1),by omega,F2,ρ2,rfl,hlt,s2,R2,e2⟩,λx H'' y=>?_⟩
  obtain⟨F'',p,u,ep,rx⟩:=hJ.yld i F' H' x H'' hlt s R'.rb.sub y;have ed:l.drop i=p::l.drop (i+1):=by
   rw[ZbM hlt];rw[Zav hlt] at ep;rw[Zaa ep]
  rw[ed,loop] at e';split at e'
  ·cases e'
  ·rename_i ρ1 h1;refine hg F'' H'' σ' ρ' x p ρ1 _ (R'.up u) rx h1 λσ1 R1=>?_;have sF:aL F F'':=s.trans u.ff;split at e'
   ·rename_i ρ2 h2;exact hb F'' H'' σ1 ρ1 _ _ R1 h2 λF3 H3 σ3 s3 R3=>⟨F3,ρ2,sF.trans s3,R3,e'⟩
   ·rename_i ρ2 h2;exact hb F'' H'' σ1 ρ1 _ _ R1 h2 λF3 H3 σ3 s3 R3=>⟨F3,ρ2,sF.trans s3,R3,e'⟩
   ·rename_i ρ2 h2;cases e';exact hb F'' H'' σ1 ρ1 _ _ R1 h2 λF3 H3 σ3 s3 R3=>P F3 H3 σ3 (sF.trans s3) R3
   ·rename_i n1 n2 n3;cases o with
    |nx ρ2=>exact absurd e' (n1 ρ2)
    |ct ρ2=>exact absurd e' (n2 ρ2)
    |bk ρ2=>exact absurd e' (n3 ρ2)
    |rt p=>exact hb F'' H'' σ1 ρ1 _ _ R1 e' (PO'.up (D:=D) P sF)
    |ro p=>exact hb F'' H'' σ1 ρ1 _ _ R1 e' (PO'.up (D:=D) P sF)
    |rd p=>exact hb F'' H'' σ1 ρ1 _ _ R1 e' (PO'.up (D:=D) P sF)
    |ex z=>exact hb F'' H'' σ1 ρ1 _ _ R1 e' (PX.up P sF)
 ·have ei:i=l.length:=by omega
  subst ei;rw[List.drop_length] at e';cases e';exact .inl ⟨hJ.stop F' H' s R'.rb.sub,P F' H' σ' s R'⟩
theorem oh{wi:TI}{it:Fn (List PV)}{gt:TG}{tg:PV->Rho->Option Rho}(hi:MI K C wi it)(hg:MG K C gt tg)(hb:MS K C t f):MS K C (Qo wi gt t) (wY it tg f):=by
 intro F H σ ρ D o R e P;rcases bR e with⟨z,e1,rfl⟩|⟨l,e1,hk⟩
 ·exact hi F H σ ρ _ _ R e1 P
 ·exact hi F H σ ρ _ _ R e1 λJ F' H' u hJ=>vO hg hb hJ (R.up u) hk (P.up u.ff)
end
def eqL(f:PV->PV->Option Bool):List PV->List PV->Option Bool
 |[],[]=>some true
 |[],_::_=>some false
 |_::_,[]=>some false
 |x::xs,y::ys=>match f x y,eqL f xs ys with
  |some a,some b=>some (a&&b)
  |_,_=>none
def eqF:Nat->PV->PV->Option Bool
 |_,.non,.non=>some true
 |_,.non,.bl _=>some false
 |_,.non,.int _=>some false
 |_,.non,.str _=>some false
 |_,.bl _,.non=>some false
 |_,.bl a,.bl b=>some (decide (a=b))
 |_,.bl _,.str _=>some false
 |_,.int _,.non=>some false
 |_,.int a,.int b=>some (decide (a=b))
 |_,.int _,.str _=>some false
 |_,.str _,.non=>some false
 |_,.str _,.bl _=>some false
 |_,.str _,.int _=>some false
 |_,.str a,.str b=>some (decide (a=b))
 |_,.non,.tup _=>some false
 |_,.tup _,.non=>some false
 |_,.non,.lst _=>some false
 |_,.lst _,.non=>some false
 |_,.int _,.tup _=>some false
 |_,.tup _,.int _=>some false
 |_,.str _,.tup _=>some false
 |_,.tup _,.str _=>some false
 |_,.int _,.lst _=>some false
 |_,.lst _,.int _=>some false
 |_,.str _,.lst _=>some false
 |_,.lst _,.str _=>some false
 |_,.lst _,.tup _=>some false
 |_,.tup _,.lst _=>some false
 |n+1,.tup l,.tup m=>eqL (eqF n) l m
 |n+1,.lst l,.lst m=>if l.length=m.length then eqL (eqF n) l m else some false
 |_,_,_=>none
theorem lA{f:PV->PV->Option Bool}(h:∀ p r,f p p=some r->r=true):∀ {l:List PV}{r:Bool},eqL f l l=some r->r=true
 |[],r,e=>by cases e;rfl
 |x::xs,r,e=>by
  rw[eqL] at e;split at e
  ·rename_i a b h1 h2;cases e;rw[h x a h1,lA h h2];rfl
  ·cases e
theorem zg:∀ (n:Nat) (p:PV) (r:Bool),eqF n p p=some r->r=true
 |n,p,r,e=>by
  induction n generalizing p r with
  |zero=>cases p<;>first|(cases (show some true=some r from e);rfl)|(cases (show some (decide _)=some r from e);exact decide_eq_true rfl)|cases (show none=some r from e)
  |succ n ih=>
   cases p with
   |tup l=>exact lA ih e
   |lst l=>
    have e:(if l.length=l.length then eqL (eqF n) l l else some false)=some r:=e;rw[Zae rfl] at e;exact lA ih e
   |_=>first|(cases (show some true=some r from e);rfl)|(cases (show some (decide _)=some r from e);exact decide_eq_true rfl)|cases (show none=some r from e)
theorem wZ{f:PV->PV->Option Bool}:∀ {l m:List PV}{r:Bool},eqL f l m=some r->∃ e:Nat->Bool,(∀ (j:Nat) x y,l[j]?=some x->m[j]?=some y->f x y=some (e j))/\r=((List.range (min l.length m.length)).all e&&l.length==m.length)
 |[],[],r,h=>⟨λ_=>true,λj x y a=>by simp at a,by cases h;rfl⟩
 |[],_::_,r,h=>⟨λ_=>true,λj x y a=>by simp at a,by cases h;simp⟩
 |_::_,[],r,h=>⟨λ_=>true,λj x y _ a=>by simp at a,by cases h;simp⟩
 |x::xs,y::ys,r,h=>by
  rw[eqL] at h;split at h
  ·rename_i a b h1 h2;cases h;obtain⟨e,e1,e2⟩:=wZ h2;refine⟨λj=>match j with|0=>a|j+1=>e j,λj x' y' a' b'=>?_,?_⟩
   ·cases j with
    |zero=>simp at a' b';subst a' b';exact h1
    |succ j=>exact e1 j x' y' (by simpa using a') (by simpa using b')
   ·rw[e2,Zax,Zax,Nat.succ_min_succ,List.range_succ_eq_map,Zby,List.all_map];have:((xs.length+1==ys.length+1):Bool)=(xs.length==ys.length):=by
     rw[ZbY];simp
    rw[this];cases a<;>simp[Function.comp_def]
  ·cases h
section
variable{X:Cx}{pins:List (Addr×Obj)}{σ:St}{H:Hp}{s:Shared}
theorem Rep.kinds(I:Inv X pins σ H s){a:Addr}{xs ys:List V}(h1:SqL X.K H a xs)(h2:SqT X.K H a ys):False:=by
 obtain⟨_,_,p1,_⟩:=I.list h1;obtain⟨_,_,p2,_⟩:=I.tuple h2;obtain⟨o,n,e,c,_⟩:=p1;obtain⟨o',e',c',_⟩:=p2;rw[e] at e';cases e';rw[c] at c';exact absurd c' (by decide)
theorem zj{xs:List V}{l m:List PV}(h1:xs.length=l.length)(h2:xs.length=m.length)(h:∀ (j:Nat) x p q,xs[j]?=some x->l[j]?=some p->m[j]?=some q->p=q):l=m:=by
 apply ZbO
 intro j;by_cases hj:j<xs.length
 ·have hl:j<l.length:=by lia
  have hm:j<m.length:=by lia
  rw[Zav hl,Zav hm,h j xs[j] l[j] m[j] (by simp[hj]) (by simp[hl]) (by simp[hm])]
 ·rw[Za2 (by lia),Za2 (by lia)]
def HO.isDict:HO->Bool
 |.dK _=>true
 |.dT _=>true
 |_=>false
theorem Mv{H:Hp}{a:Addr}{u v:HO}(hu:HO.isDict u=true)(hv:HO.isDict v=true)(h:Rd H a u)(h':Rd H a v):u=v:=by
 rcases h with h|⟨o,h⟩<;>rcases h' with h'|⟨o',h'⟩<;>rw[h] at h'<;>cases h'
 ·rfl
 ·cases hu
 ·cases hv
 ·rfl
theorem w5{H:Hp}{a:Addr}{u v:HO}(h:Rd H a u)(h':Rd H a v)(hu:HO.isDict u=true:=by rfl)(hv:HO.isDict v=true:=by rfl):u=v:=Mv hu hv h h'
theorem Rep.noDict(I:Inv X pins σ H s){a:Addr}{ks:List (Key×V)}{ts:List (List Key×V)}(h1:Rd H a (.dK ks)\/Rd H a (.dT ts))(h2:(∃ xs,SqL X.K H a xs)\/∃ xs,SqT X.K H a xs):False:=by
 have d:∃ o es ep,s.heap.get? a=some o/\o.data=.dict es ep:=by
  rcases h1 with h1|h1
  ·obtain⟨_,_,_,_,o,es,ep,e,x,d,_⟩:=h1.ok I.hok;exact⟨o,es,ep,e,d⟩
  ·obtain⟨_,_,_,_,o,es,ep,e,x,d,_⟩:=h1.ok I.hok;exact⟨o,es,ep,e,d⟩
 obtain⟨o,es,ep,e,d⟩:=d;rcases h2 with⟨xs,h2⟩|⟨xs,h2⟩
 ·obtain⟨_,_,p1,_⟩:=I.list h2;obtain⟨o',n,e',_,_,d'⟩:=p1;rw[e] at e';cases e';rw[d] at d';cases d'
 ·obtain⟨_,_,p1,_⟩:=I.tuple h2;obtain⟨o',e',_,n,d'⟩:=p1;rw[e] at e';cases e';rw[d] at d';cases d'
theorem XO.at(I:Inv X pins σ H s){a C:Addr}{d:Option Addr}(h:H a=some (XO a C d)):∃ vs:Array Value,s.heap.get? a=some { cls:=.ref C,dict:=d,data:=.fields vs }:=(I.hok _ _ h).1
theorem XO.inj(I:Inv X pins σ H s){a C C':Addr}{d d':Option Addr}(h:H a=some (XO a C d))(h':H a=some (XO a C' d')):C=C'/\d=d':=by
 obtain⟨vs,e⟩:=XO.at I h;obtain⟨vs',e'⟩:=XO.at I h';rw[e] at e';cases e';exact⟨rfl,rfl⟩
theorem XO.noSeq(I:Inv X pins σ H s){a C:Addr}{d:Option Addr}(h:H a=some (XO a C d))(h2:(∃ xs,SqL X.K H a xs)\/∃ xs,SqT X.K H a xs):False:=by
 obtain⟨vs,e⟩:=XO.at I h;rcases h2 with⟨xs,h2⟩|⟨xs,h2⟩
 ·obtain⟨_,_,p1,_⟩:=I.list h2;obtain⟨o',n,e',_,_,d'⟩:=p1;rw[e] at e';cases e';cases d'
 ·obtain⟨_,_,p1,_⟩:=I.tuple h2;obtain⟨o',e',_,n,d'⟩:=p1;rw[e] at e';cases e';cases d'
theorem Ins.noSeq(I:Inv X pins σ H s){a C dx:Addr}{fs:List (Str×V)}(h:H a=some (.ins C dx fs))(h2:(∃ xs,SqL X.K H a xs)\/∃ xs,SqT X.K H a xs):False:=by
 obtain⟨_,_,_,e,_⟩:=(show cY X.prog X.w H s.heap a (.ins C dx fs) from I.hok _ _ h);rcases h2 with⟨xs,h2⟩|⟨xs,h2⟩
 ·obtain⟨_,_,p1,_⟩:=I.list h2;obtain⟨o',n,e',_,_,d'⟩:=p1;rw[e] at e';cases e';cases d'
 ·obtain⟨_,_,p1,_⟩:=I.tuple h2;obtain⟨o',e',_,n,d'⟩:=p1;rw[e] at e';cases e';cases d'
theorem XNm.inj{K:PySem.W.Frag}{C:Addr}{c c':Str}(a:XNm K C c)(b:XNm K C c'):c=c':=by
 obtain⟨cd,h1,h2⟩:=a.cl;obtain⟨cd',h1',h2'⟩:=b.cl;rw[h1] at h1';cases h1';exact h2.symm.trans h2'
theorem Rep.inj(I:Inv X pins σ H s){x:V}{p:PV}(h:Rep X.K H x p):∀ {q:PV},Rep X.K H x q->p=q:=by
 have pairs:∀ {κ:Type}{xs:List (κ×V)}{l m:List (κ×PV)},xs.map (·.1)=l.map (·.1)->xs.map (·.1)=m.map (·.1)->(∀ (j:Nat) x p q,xs[j]?=some x->l[j]?=some p->m[j]?=some q->p.2=q.2)->l=m:=by
  intro κ xs l m h1 h2 h3;have l1:xs.length=l.length:=by simpa using Zbi List.length h1
  have l2:xs.length=m.length:=by simpa using Zbi List.length h2
  apply ZbO
  intro j;by_cases hj:j<xs.length
  ·have hl:j<l.length:=by lia
   have hm:j<m.length:=by lia
   rw[Zav hl,Zav hm];have k:=Zbi (·[j]?) (h1.symm.trans h2);simp[hl,hm] at k;have v:=h3 j xs[j] l[j] m[j] (by simp[hj]) (by simp[hl]) (by simp[hm])
   rw[Prod.ext k v]
  ·rw[Za2 (by lia),Za2 (by lia)]
 induction h with
 |non=>intro q h';cases h';rfl
 |bl=>intro q h';cases h';rfl
 |int=>intro q h';cases h';rfl
 |str=>intro q h';cases h';rfl
 |ty=>intro q h';cases h';rfl
 |@tup a xs l h hl _ ih=>
  intro q h';have h:=SqT.of (K:=X.K) h;cases h' with
  |tup h2 hl2 hr2=>
   cases I.vA h (SqT.of (K:=X.K) h2);rw[zj hl hl2 λj x p q e1 e2 e3=>ih j x p e1 e2 (hr2 j x q e1 e3)]
  |lst h2=>exact(Rep.kinds I h2 h).elim
  |dk h2=>exact(Rep.noDict I (ts:=[]) (.inl h2) (.inr ⟨_,h⟩)).elim
  |dt h2=>exact(Rep.noDict I (ks:=[]) (.inr h2) (.inr ⟨_,h⟩)).elim
  |exc _ h2=>exact(XO.noSeq I h2 (.inr ⟨_,h⟩)).elim
  |exc0 _ h2=>exact(XO.noSeq I h2 (.inr ⟨_,h⟩)).elim
  |obj _ h2=>exact(Ins.noSeq I h2 (.inr ⟨_,h⟩)).elim
 |@lst a xs l h hl _ ih=>
  intro q h';cases h' with
  |tup h2=>exact(Rep.kinds I h (SqT.of h2)).elim
  |lst h2 hl2 hr2=>
   cases I.yN h h2;rw[zj hl hl2 λj x p q e1 e2 e3=>ih j x p e1 e2 (hr2 j x q e1 e3)]
  |dk h2=>exact(Rep.noDict I (ts:=[]) (.inl h2) (.inl ⟨_,h⟩)).elim
  |dt h2=>exact(Rep.noDict I (ks:=[]) (.inr h2) (.inl ⟨_,h⟩)).elim
  |exc _ h2=>exact(XO.noSeq I h2 (.inl ⟨_,h⟩)).elim
  |exc0 _ h2=>exact(XO.noSeq I h2 (.inl ⟨_,h⟩)).elim
  |obj _ h2=>exact(Ins.noSeq I h2 (.inl ⟨_,h⟩)).elim
 |@dk a xs l h hl _ ih=>
  intro q h';cases h' with
  |tup h2=>exact(Rep.noDict I (ts:=[]) (.inl h) (.inr ⟨_,SqT.of h2⟩)).elim
  |lst h2=>exact(Rep.noDict I (ts:=[]) (.inl h) (.inl ⟨_,h2⟩)).elim
  |dk h2 hl2 hr2=>
   cases (w5 h h2);rw[pairs hl hl2 λj x p q e1 e2 e3=>ih j x p e1 e2 (hr2 j x q e1 e3)]
  |dt h2=>cases w5 h h2
  |exc _ h2=>rcases h with h|⟨o,h⟩<;>rw[h] at h2<;>cases h2
  |exc0 _ h2=>rcases h with h|⟨o,h⟩<;>rw[h] at h2<;>cases h2
  |obj _ h2=>rcases h with h|⟨o,h⟩<;>rw[h] at h2<;>cases h2
 |@dt a xs l h hl _ ih=>
  intro q h';cases h' with
  |tup h2=>exact(Rep.noDict I (ks:=[]) (.inr h) (.inr ⟨_,SqT.of h2⟩)).elim
  |lst h2=>exact(Rep.noDict I (ks:=[]) (.inr h) (.inl ⟨_,h2⟩)).elim
  |dk h2=>cases w5 h h2
  |dt h2 hl2 hr2=>
   cases (w5 h h2);rw[pairs hl hl2 λj x p q e1 e2 e3=>ih j x p e1 e2 (hr2 j x q e1 e3)]
  |exc _ h2=>rcases h with h|⟨o,h⟩<;>rw[h] at h2<;>cases h2
  |exc0 _ h2=>rcases h with h|⟨o,h⟩<;>rw[h] at h2<;>cases h2
  |obj _ h2=>rcases h with h|⟨o,h⟩<;>rw[h] at h2<;>cases h2
 |@exc a C dx c xs l nm h hd hl _ ih=>
  intro q h';cases h' with
  |tup h2=>exact(XO.noSeq I h (.inr ⟨_,SqT.of h2⟩)).elim
  |lst h2=>exact(XO.noSeq I h (.inl ⟨_,h2⟩)).elim
  |dk h2=>rcases h2 with h2|⟨o,h2⟩<;>rw[h] at h2<;>cases h2
  |dt h2=>rcases h2 with h2|⟨o,h2⟩<;>rw[h] at h2<;>cases h2
  |exc nm2 h2 hd2 hl2 hr2=>
   obtain⟨rfl,e⟩:=XO.inj I h h2;cases e;rw[hd] at hd2;cases hd2;cases XNm.inj nm nm2;rw[pairs hl hl2 λj x p q e1 e2 e3=>ih j x p e1 e2 (hr2 j x q e1 e3)]
  |exc0 nm2 h2=>cases (XO.inj I h h2).2
  |obj _ h2=>rw[h] at h2;cases h2
 |@exc0 a C c nm h=>
  intro q h';cases h' with
  |tup h2=>exact(XO.noSeq I h (.inr ⟨_,SqT.of h2⟩)).elim
  |lst h2=>exact(XO.noSeq I h (.inl ⟨_,h2⟩)).elim
  |dk h2=>rcases h2 with h2|⟨o,h2⟩<;>rw[h] at h2<;>cases h2
  |dt h2=>rcases h2 with h2|⟨o,h2⟩<;>rw[h] at h2<;>cases h2
  |exc nm2 h2=>cases (XO.inj I h h2).2
  |exc0 nm2 h2=>
   obtain⟨rfl,_⟩:=XO.inj I h h2;cases XNm.inj nm nm2;rfl
  |obj _ h2=>rw[h] at h2;cases h2
 |@obj a C dx c xs l nm h hl _ ih=>
  intro q h';cases h' with
  |tup h2=>exact(Ins.noSeq I h (.inr ⟨_,SqT.of h2⟩)).elim
  |lst h2=>exact(Ins.noSeq I h (.inl ⟨_,h2⟩)).elim
  |dk h2=>rcases h2 with h2|⟨o,h2⟩<;>rw[h] at h2<;>cases h2
  |dt h2=>rcases h2 with h2|⟨o,h2⟩<;>rw[h] at h2<;>cases h2
  |exc _ h2=>rw[h] at h2;cases h2
  |exc0 _ h2=>rw[h] at h2;cases h2
  |obj nm2 h2 hl2 hr2=>
   rw[h] at h2;cases h2;cases XNm.inj nm nm2;rw[pairs hl hl2 λj x p q e1 e2 e3=>ih j x p e1 e2 (hr2 j x q e1 e3)]
theorem JD(I:Inv X pins σ H s):∀ {A:Around}{x y:V}{p q:PV}{r:Bool}{u v:Value},A.units<cLine->eqF 0 p q=some r->Rep X.K H x p->Rep X.K H y q->RelV x u->RelV y v ->
  SeqAt.RcAt A s u v r/\SeqAt.EqAt A s u v r/\SeqAt.RcNeAt A s u v (!r):=by
 intro A x y p q r u v hu e rx ry ru rv;have hu0:A.units<cLine:=hu
 match p,q,e with
 |.non,.non,e=>
  have e:=Zaa e;subst e;cases Rep.du rx;cases Rep.du ry;cases ru;cases rv;exact⟨SeqAt.RcAt.none_none,SeqAt.EqAt.same _,SeqAt.RcNeAt.none_none⟩
 |.non,.bl b,e=>
  have e:=Zaa e;subst e;cases Rep.du rx;cases Rep.cX ry;cases ru;cases rv;exact⟨SeqAt.RcAt.none_bool _,SeqAt.EqAt.none_bool _,SeqAt.RcNeAt.none_bool _⟩
 |.non,.int b,e=>
  have e:=Zaa e;subst e;cases Rep.du rx;cases Rep.aX ry;cases ru;obtain⟨tb,rfl⟩:=rv;exact⟨SeqAt.RcAt.none_int _ _,SeqAt.EqAt.none_int _ _,SeqAt.RcNeAt.none_int _ _⟩
 |.non,.str b,e=>
  have e:=Zaa e;subst e;cases Rep.du rx;cases Rep.bF ry;cases ru;obtain⟨tb,rfl⟩:=rv;exact⟨SeqAt.RcAt.none_str _ _,SeqAt.EqAt.none_str _ _,SeqAt.RcNeAt.none_str _ _⟩
 |.bl a,.non,e=>
  have e:=Zaa e;subst e;cases Rep.cX rx;cases Rep.du ry;cases ru;cases rv;exact⟨SeqAt.RcAt.bool_none _,SeqAt.EqAt.bool_none _,SeqAt.RcNeAt.bool_none _⟩
 |.bl a,.bl b,e=>
  have e:=Zaa e;subst e;cases Rep.cX rx;cases Rep.cX ry;cases ru;cases rv;rw[<-Zbs];exact⟨SeqAt.RcAt.bool_bool _ _,SeqAt.EqAt.bool_bool _ _,SeqAt.RcNeAt.bool_bool _ _⟩
 |.bl a,.str b,e=>
  have e:=Zaa e;subst e;cases Rep.cX rx;cases Rep.bF ry;cases ru;obtain⟨tb,rfl⟩:=rv;exact⟨SeqAt.RcAt.bool_str _ _ _,SeqAt.EqAt.bool_str _ _ _,SeqAt.RcNeAt.bool_str _ _ _⟩
 |.int a,.non,e=>
  have e:=Zaa e;subst e;cases Rep.aX rx;cases Rep.du ry;obtain⟨ta,rfl⟩:=ru;cases rv;exact⟨SeqAt.RcAt.int_none _ _,SeqAt.EqAt.int_none _ _,SeqAt.RcNeAt.int_none _ _⟩
 |.int a,.int b,e=>
  have e:=Zaa e;subst e;cases Rep.aX rx;cases Rep.aX ry;obtain⟨ta,rfl⟩:=ru;obtain⟨tb,rfl⟩:=rv;rw[<-Zbs];exact⟨SeqAt.RcAt.int_int _ _ _ _,SeqAt.EqAt.int_int _ _ _ _,SeqAt.RcNeAt.int_int _ _ _ _⟩
 |.int a,.str b,e=>
  have e:=Zaa e;subst e;cases Rep.aX rx;cases Rep.bF ry;obtain⟨ta,rfl⟩:=ru;obtain⟨tb,rfl⟩:=rv;exact⟨SeqAt.RcAt.int_str _ _ _ _,SeqAt.EqAt.int_str _ _ _ _,SeqAt.RcNeAt.int_str _ _ _ _⟩
 |.str a,.non,e=>
  have e:=Zaa e;subst e;cases Rep.bF rx;cases Rep.du ry;obtain⟨ta,rfl⟩:=ru;cases rv;exact⟨SeqAt.RcAt.str_none _ _,SeqAt.EqAt.str_none _ _,SeqAt.RcNeAt.str_none _ _⟩
 |.str a,.bl b,e=>
  have e:=Zaa e;subst e;cases Rep.bF rx;cases Rep.cX ry;obtain⟨ta,rfl⟩:=ru;cases rv;exact⟨SeqAt.RcAt.str_bool _ _ _,SeqAt.EqAt.str_bool _ _ _,SeqAt.RcNeAt.str_bool _ _ _⟩
 |.str a,.int b,e=>
  have e:=Zaa e;subst e;cases Rep.bF rx;cases Rep.aX ry;obtain⟨ta,rfl⟩:=ru;obtain⟨tb,rfl⟩:=rv;exact⟨SeqAt.RcAt.str_int _ _ _ _,SeqAt.EqAt.str_int _ _ _ _,SeqAt.RcNeAt.str_int _ _ _ _⟩
 |.str a,.str b,e=>
  have e:=Zaa e;subst e;cases Rep.bF rx;cases Rep.bF ry;obtain⟨ta,rfl⟩:=ru;obtain⟨tb,rfl⟩:=rv;rw[<-Zbs];exact⟨SeqAt.RcAt.str_str _ _ _ _,SeqAt.EqAt.str_str _ _ _ _,SeqAt.RcNeAt.str_str _ _ _ _⟩
 |.tup a,.non,e=>
  have e:=Zaa e;subst e;obtain⟨aa,xsa,rfl,ha,_⟩:=rx.cu;cases ru;obtain⟨_,_,pa,_⟩:=I.tuple ha;cases Rep.du ry;cases rv;exact⟨SeqAt.RcAt.tuple_none pa hu0,SeqAt.EqAt.tuple_none pa hu0,SeqAt.RcNeAt.tuple_none pa hu0⟩
 |.non,.tup b,e=>
  have e:=Zaa e;subst e;cases Rep.du rx;cases ru;obtain⟨ab,xsb,rfl,hb,_⟩:=ry.cu;cases rv;obtain⟨_,_,pb,_⟩:=I.tuple hb;exact⟨SeqAt.RcAt.none_tuple pb hu0,SeqAt.EqAt.none_tuple pb hu0,SeqAt.RcNeAt.none_tuple pb hu0⟩
 |.tup a,.int b,e=>
  have e:=Zaa e;subst e;obtain⟨aa,xsa,rfl,ha,_⟩:=rx.cu;cases ru;obtain⟨_,_,pa,_⟩:=I.tuple ha;cases Rep.aX ry;obtain⟨tb,rfl⟩:=rv;exact⟨SeqAt.RcAt.tuple_int _ _ pa hu0,SeqAt.EqAt.tuple_int _ _ pa hu0,SeqAt.RcNeAt.tuple_int _ _ pa hu0⟩
 |.int a,.tup b,e=>
  have e:=Zaa e;subst e;cases Rep.aX rx;obtain⟨ta,rfl⟩:=ru;obtain⟨ab,xsb,rfl,hb,_⟩:=ry.cu;cases rv;obtain⟨_,_,pb,_⟩:=I.tuple hb;exact⟨SeqAt.RcAt.int_tuple _ _ pb hu0,SeqAt.EqAt.int_tuple _ _ pb hu0,SeqAt.RcNeAt.int_tuple _ _ pb hu0⟩
 |.tup a,.str b,e=>
  have e:=Zaa e;subst e;obtain⟨aa,xsa,rfl,ha,_⟩:=rx.cu;cases ru;obtain⟨_,_,pa,_⟩:=I.tuple ha;cases Rep.bF ry;obtain⟨tb,rfl⟩:=rv;exact⟨SeqAt.RcAt.tuple_str _ _ pa hu0,SeqAt.EqAt.tuple_str _ _ pa hu0,SeqAt.RcNeAt.tuple_str _ _ pa hu0⟩
 |.str a,.tup b,e=>
  have e:=Zaa e;subst e;cases Rep.bF rx;obtain⟨ta,rfl⟩:=ru;obtain⟨ab,xsb,rfl,hb,_⟩:=ry.cu;cases rv;obtain⟨_,_,pb,_⟩:=I.tuple hb;exact⟨SeqAt.RcAt.str_tuple _ _ pb hu0,SeqAt.EqAt.str_tuple _ _ pb hu0,SeqAt.RcNeAt.str_tuple _ _ pb hu0⟩
 |.lst a,.non,e=>
  have e:=Zaa e;subst e;obtain⟨aa,xsa,rfl,ha,_⟩:=rx.cH;cases ru;obtain⟨_,_,pa,_⟩:=I.list ha;cases Rep.du ry;cases rv;exact⟨SeqAt.RcAt.list_none pa.isList hu0,SeqAt.EqAt.list_none pa.isList hu0,SeqAt.RcNeAt.list_none pa.isList hu0⟩
 |.non,.lst b,e=>
  have e:=Zaa e;subst e;cases Rep.du rx;cases ru;obtain⟨ab,xsb,rfl,hb,_⟩:=ry.cH;cases rv;obtain⟨_,_,pb,_⟩:=I.list hb;exact⟨SeqAt.RcAt.none_list pb.isList hu0,SeqAt.EqAt.none_list pb.isList hu0,SeqAt.RcNeAt.none_list pb.isList hu0⟩
 |.lst a,.int b,e=>
  have e:=Zaa e;subst e;obtain⟨aa,xsa,rfl,ha,_⟩:=rx.cH;cases ru;obtain⟨_,_,pa,_⟩:=I.list ha;cases Rep.aX ry;obtain⟨tb,rfl⟩:=rv;exact⟨SeqAt.RcAt.list_int _ _ pa.isList hu0,SeqAt.EqAt.list_int _ _ pa.isList hu0,SeqAt.RcNeAt.list_int _ _ pa.isList hu0⟩
 |.int a,.lst b,e=>
  have e:=Zaa e;subst e;cases Rep.aX rx;obtain⟨ta,rfl⟩:=ru;obtain⟨ab,xsb,rfl,hb,_⟩:=ry.cH;cases rv;obtain⟨_,_,pb,_⟩:=I.list hb;exact⟨SeqAt.RcAt.int_list _ _ pb.isList hu0,SeqAt.EqAt.int_list _ _ pb.isList hu0,SeqAt.RcNeAt.int_list _ _ pb.isList hu0⟩
 |.lst a,.str b,e=>
  have e:=Zaa e;subst e;obtain⟨aa,xsa,rfl,ha,_⟩:=rx.cH;cases ru;obtain⟨_,_,pa,_⟩:=I.list ha;cases Rep.bF ry;obtain⟨tb,rfl⟩:=rv;exact⟨SeqAt.RcAt.list_str _ _ pa.isList hu0,SeqAt.EqAt.list_str _ _ pa.isList hu0,SeqAt.RcNeAt.list_str _ _ pa.isList hu0⟩
 |.str a,.lst b,e=>
  have e:=Zaa e;subst e;cases Rep.bF rx;obtain⟨ta,rfl⟩:=ru;obtain⟨ab,xsb,rfl,hb,_⟩:=ry.cH;cases rv;obtain⟨_,_,pb,_⟩:=I.list hb;exact⟨SeqAt.RcAt.str_list _ _ pb.isList hu0,SeqAt.EqAt.str_list _ _ pb.isList hu0,SeqAt.RcNeAt.str_list _ _ pb.isList hu0⟩
 |.lst a,.tup b,e=>
  have e:=Zaa e;subst e;obtain⟨aa,xsa,rfl,ha,_⟩:=rx.cH;cases ru;obtain⟨_,_,pa,_⟩:=I.list ha;obtain⟨ab,xsb,rfl,hb,_⟩:=ry.cu;cases rv;obtain⟨_,_,pb,_⟩:=I.tuple hb;exact⟨SeqAt.RcAt.list_tuple pa.isList pb hu0,SeqAt.EqAt.list_tuple pa.isList pb hu0,SeqAt.RcNeAt.list_tuple pa.isList pb hu0⟩
 |.tup a,.lst b,e=>
  have e:=Zaa e;subst e;obtain⟨aa,xsa,rfl,ha,_⟩:=rx.cu;cases ru;obtain⟨_,_,pa,_⟩:=I.tuple ha;obtain⟨ab,xsb,rfl,hb,_⟩:=ry.cH;cases rv;obtain⟨_,_,pb,_⟩:=I.list hb;exact⟨SeqAt.RcAt.tuple_list pa pb.isList hu0,SeqAt.EqAt.tuple_list pa pb.isList hu0,SeqAt.RcNeAt.tuple_list pa pb.isList hu0⟩
def JF:PV->PV->Bool
 |.tup _,.tup _=>true
 |.lst _,.lst _=>true
 |_,_=>false
theorem JG{n:Nat}{p q:PV}(h:JF p q=false):eqF (n+1) p q=eqF 0 p q:=by
 cases p<;>cases q<;>first|rfl|cases h
theorem GZ:∀ {p q:PV},JF p q=true->(∃ l m,p=.tup l/\q=.tup m)\/∃ l m,p=.lst l/\q=.lst m
 |.tup l,q,h=>by
  cases q with
  |tup m=>exact .inl ⟨l,m,rfl,rfl⟩
  |_=>cases h
 |.lst l,q,h=>by
  cases q with
  |lst m=>exact .inr ⟨l,m,rfl,rfl⟩
  |_=>cases h
theorem JH(I:Inv X pins σ H s):∀ (n:Nat) {A:Around}{x y:V}{p q:PV}{r:Bool}{u v:Value},A.units+n<cLine->eqF n p q=some r->Rep X.K H x p->Rep X.K H y q->RelV x u->RelV y v ->
  SeqAt.RcAt A s u v r/\SeqAt.EqAt A s u v r/\SeqAt.RcNeAt A s u v (!r):=by
 intro n;induction n with
 |zero=>exact λhu e=>JD I (by lia) e
 |succ n ih=>
  intro A x y p q r u v hu e rx ry ru rv;have hu0:A.units<cLine:=by lia
  cases hr:JF p q with
  |false=>exact JD I hu0 (by rw[<-JG hr];exact e) rx ry ru rv
  |true=>
  rcases GZ hr with⟨l,m,rfl,rfl⟩|⟨l,m,rfl,rfl⟩
  ·have e:eqL (eqF n) l m=some r:=e;obtain⟨a,xs,rfl,ha,r1⟩:=rx.cu;obtain⟨b,ys,rfl,hb,r2⟩:=ry.cu;cases ru;cases rv;obtain⟨i1,v1,t1,_⟩:=I.tuple ha;obtain⟨i2,v2,t2,_⟩:=I.tuple hb;obtain⟨g,g1,g2⟩:=wZ e;have hj:∀ j (h1:j<i1.toArray.size) (h2:j<i2.toArray.size),SeqAt.EqAt A.in1 s i1.toArray[j] i2.toArray[j] (g j):=λj h1 h2=>by
    obtain⟨x,hx,rx'⟩:=oU v1 h1;obtain⟨y,hy,ry'⟩:=oU v2 h2;obtain⟨p',hp,rp⟩:=r1.got hx;obtain⟨q',hq,rq⟩:=r2.got hy;exact(ih (A:=A.in1) (show A.units+1+n<cLine by lia) (g1 j p' q' hp hq) rp rq rx' ry').2.1
   have rc:=SeqAt.RcAt.tuples (A:=A) (e:=g) t1 t2 hu0 hj;have rn:=SeqAt.RcNeAt.tuples (A:=A) (e:=g) t1 t2 hu0 hj;rw[List.size_toArray,List.size_toArray,<-v1.length,<-v2.length,r1.1,r2.1,<-g2] at rc rn;refine⟨rc,?_,rn⟩;by_cases hab:a=b
   ·subst hab;have epq:PV.tup l=PV.tup m:=Rep.inj I rx ry;cases epq;have er:=lA (zg n) e;subst er;exact SeqAt.EqAt.same _
   ·exact .of_refs hab rc
  ·obtain⟨a,xs,rfl,ha,r1⟩:=rx.cH;obtain⟨b,ys,rfl,hb,r2⟩:=ry.cH;cases ru;cases rv;obtain⟨i1,v1,t1,_⟩:=I.list ha;obtain⟨i2,v2,t2,_⟩:=I.list hb;have e:(if l.length=m.length then eqL (eqF n) l m else some false)=some r:=e;split at e
   ·rename_i hlm;obtain⟨g,g1,g2⟩:=wZ e;have hz:i1.toArray.size=i2.toArray.size:=by rw[List.size_toArray,List.size_toArray,<-v1.length,<-v2.length,r1.1,r2.1];exact hlm
    have hj:∀ j (h1:j<i1.toArray.size) (h2:j<i2.toArray.size),SeqAt.EqAt A.in1 s i1.toArray[j] i2.toArray[j] (g j):=λj h1 h2=>by
     obtain⟨x,hx,rx'⟩:=oU v1 h1;obtain⟨y,hy,ry'⟩:=oU v2 h2;obtain⟨p',hp,rp⟩:=r1.got hx;obtain⟨q',hq,rq⟩:=r2.got hy;exact(ih (A:=A.in1) (show A.units+1+n<cLine by lia) (g1 j p' q' hp hq) rp rq rx' ry').2.1
    have rc:=SeqAt.RcAt.lists (A:=A) (e:=g) t1.isList t2.isList hz hu0 hj;have e2:r=(List.range l.length).all g:=by rw[g2,<-hlm,Nat.min_self,beq_self_eq_true,Bool.and_true]
    have rn:=SeqAt.RcNeAt.lists (A:=A) (e:=g) t1.isList t2.isList hz hu0 hj;rw[List.size_toArray,<-v1.length,r1.1,<-e2] at rc rn;refine⟨rc,?_,rn⟩;by_cases hab:a=b
    ·subst hab;have epq:PV.lst l=PV.lst m:=Rep.inj I rx ry;cases epq;have er:=lA (zg n) e;subst er;exact SeqAt.EqAt.same _
    ·exact .of_refs hab rc
   ·rename_i hlm;cases e;have hz:(i1.toArray.size != i2.toArray.size)=true:=by rw[List.size_toArray,List.size_toArray,<-v1.length,<-v2.length,r1.1,r2.1];simpa using hlm
    have rc:=SeqAt.RcAt.lists_lengths (A:=A) t1.isList t2.isList hz hu0;have hab:a≠b:=λz=>by
     subst z;have epq:PV.lst l=PV.lst m:=Rep.inj I rx ry;cases epq;exact hlm rfl
    exact⟨rc,.of_refs hab rc,SeqAt.RcNeAt.lists_lengths (A:=A) t1.isList t2.isList hz hu0⟩
end
section
variable{X:Cx}{k:Nat}
theorem OpR.or{f:Value->Value->Sem Value}{r r':R2}(h:OpR X f r)(h':OpR X f r'):OpR X f (λx y H Q=>r x y H Q\/r' x y H Q):=by
 intro pins s σ H x y v u Q I rx ry q;rcases q with q|q
 ·exact h pins s σ H x y v u Q I rx ry q
 ·exact h' pins s σ H x y v u Q I rx ry q
def Q4(K:PySem.W.Frag):R2:=λx y H Q=>∃ p q r,Rep K H x p/\Rep K H y q/\eqF 32 p q=some r/\Q (.bl r) H
def S9(K:PySem.W.Frag):R2:=λx y H Q=>∃ p q r,Rep K H x p/\Rep K H y q/\eqF 32 p q=some r/\Q (.bl (!r)) H
theorem gW(hr:cB k X.A):OpR X (compareOp .Eq) (Q4 X.K):=by
 intro pins s σ H x y v u Q I rx ry h;obtain⟨p,q,r,h1,h2,e,h3⟩:=h;exact(JH I 32 (Ce hr) e h1 h2 rx ry).1 X.prog X.w X.xe _ ⟨.bl r,H,I,rfl,h3⟩
theorem Ck(hr:cB k X.A):OpR X (compareOp .NotEq) (S9 X.K):=by
 intro pins s σ H x y v u Q I rx ry h;obtain⟨p,q,r,h1,h2,e,h3⟩:=h;exact(JH I 32 (Ce hr) e h1 h2 rx ry).2.2 X.prog X.w X.xe _ ⟨.bl (!r),H,I,rfl,h3⟩
def inF(p:PV):List PV->Option Bool
 |[]=>some false
 |x::xs=>match eqF 31 x p,inF p xs with
  |some a,some b=>some (a||b)
  |_,_=>none
theorem Ek{p:PV}:∀ {l:List PV}{r:Bool},inF p l=some r->∃ e:Nat->Bool,(∀ (j:Nat) x,l[j]?=some x->eqF 31 x p=some (e j))/\r=(List.range l.length).any e
 |[],r,h=>⟨λ_=>true,λj x a=>by simp at a,by cases h;rfl⟩
 |x::xs,r,h=>by
  rw[inF] at h;split at h
  ·rename_i a b h1 h2;cases h;obtain⟨e,e1,e2⟩:=Ek h2;refine⟨λj=>match j with|0=>a|j+1=>e j,λj x' a'=>?_,?_⟩
   ·cases j with
    |zero=>simp at a';subst a';exact h1
    |succ j=>exact e1 j x' (by simpa using a')
   ·rw[e2,Zax,List.range_succ_eq_map,Zbe,List.any_map];rfl
  ·cases h
def Mw(K:PySem.W.Frag)(neg:Bool):R2:=λx y H Q=>∃ p l r,Rep K H x p/\(Rep K H y (.lst l)\/Rep K H y (.tup l))/\inF p l=some r/\Q (.bl (if neg=true then !r else r)) H
theorem oZ{pins:List (Addr×Obj)}{σ:St}{H:Hp}{s:Shared}(I:Inv X pins σ H s)(hr:cB k X.A){x:V}{v:Value}{p:PV}{xs:List V}{its:List Value}{l:List PV}{r:Bool}(rx:RelV x v)(h1:Rep X.K H x p)(rv:Vals xs its)(hl:bz X.K H xs l)(e:inF p l=some r) :
  ∃ f:Value->Bool,(∀ y,y∈its.toArray->SeqAt.EqAt X.A.in1 s y v (f y))/\its.toArray.any f=r:=by
 obtain⟨g,g1,g2⟩:=Ek e;have key:∀ w'∈its,∃ j,∃ hj:j<its.length,its[j]=w':=λw' hw=>by
  obtain⟨j,hj,e⟩:=List.mem_iff_getElem.mp hw;exact⟨j,hj,e⟩
 have look:∀ (j:Nat) (hj:j<its.length),∃ z q,l[j]?=some q/\RelV z its[j]/\Rep X.K H z q/\eqF 31 q p=some (g j):=λj hj=>by
  obtain⟨z,hz,rz⟩:=oU rv (j:=j) (by simpa using hj)
  obtain⟨q,hq,rq⟩:=hl.got hz;exact⟨z,q,hq,by simpa using rz,rq,g1 j q hq⟩
 classical
 let f:Value->Bool:=λw'=>if h:∃ j,∃ hj:j<its.length,its[j]=w' then g (Classical.choose h) else false
 have fe:∀ (j:Nat) (hj:j<its.length),f its[j]=g j:=λj hj=>by
  have hx:∃ i,∃ hi:i<its.length,its[i]=its[j]:=⟨j,hj,rfl⟩;show(if h:∃ i,∃ hi:i<its.length,its[i]=its[j] then g (Classical.choose h) else false)=g j
  rw[dif_pos hx];obtain⟨h1',h2'⟩:=Classical.choose_spec hx;generalize Classical.choose hx=i at h1' h2' ⊢
  obtain⟨z,q,_,rz,rq,eq1⟩:=look i h1';obtain⟨z',q',_,rz',rq',eq2⟩:=look j hj;rw[h2'] at rz;cases rz.inj rz';cases Rep.inj I rq rq';rw[eq1] at eq2;exact Zaa eq2
 refine⟨f,λy hy=>?_,?_⟩
 ·obtain⟨j,hj,e1⟩:=key y (by simpa using hy)
  obtain⟨z,q,_,rz,rq,eq1⟩:=look j hj;rw[<-e1,fe j hj];exact(JH I 31 (A:=X.A.in1) (show X.A.units+1+31<cLine by have:=Ce hr;lia) eq1 rq h1 rz rx).2.1
 ·have hlen:its.length=l.length:=by rw[<-rv.length,hl.1]
  rw[g2,show its.toArray.any f=its.any f by simp,ZbY,ZbU,ZbU]
  constructor
  ·rintro⟨w',hw,hf⟩;obtain⟨j,hj,e1⟩:=key w' hw;exact⟨j,Zbf.mpr (by lia),by rw[<-fe j hj,e1];exact hf⟩
  ·rintro⟨j,hj,hf⟩;have hj':j<its.length:=by rw[hlen];exact Zbf.mp hj
   exact⟨its[j],ZbT hj',by rw[fe j hj'];exact hf⟩
theorem Q5(hr:cB k X.A):OpR X (compareOp .In) (Mw X.K false):=by
 intro pins s σ H x y v u Q I rx ry h;obtain⟨p,l,r,h1,h2,e,q⟩:=h;rcases h2 with h2|h2
 ·obtain⟨a,xs,rfl,hq,rr⟩:=h2.cH;cases ry;obtain⟨its,rv,pl,_⟩:=I.list hq;obtain⟨f,f1,f2⟩:=oZ I hr rx h1 rv rr e;exact SeqAt.in_listAt f pl.isList f1 (by rw[f2];exact⟨.bl _,H,I,rfl,q⟩)
 ·obtain⟨a,xs,rfl,hq,rr⟩:=h2.cu;cases ry;obtain⟨its,rv,pl,_⟩:=I.tuple hq;obtain⟨f,f1,f2⟩:=oZ I hr rx h1 rv rr e;exact SeqAt.in_tupleAt f pl f1 (by rw[f2];exact⟨.bl _,H,I,rfl,q⟩)
theorem Ha(hr:cB k X.A):OpR X (compareOp .NotIn) (Mw X.K true):=by
 intro pins s σ H x y v u Q I rx ry h;obtain⟨p,l,r,h1,h2,e,q⟩:=h;rcases h2 with h2|h2
 ·obtain⟨a,xs,rfl,hq,rr⟩:=h2.cH;cases ry;obtain⟨its,rv,pl,_⟩:=I.list hq;obtain⟨f,f1,f2⟩:=oZ I hr rx h1 rv rr e;exact SeqAt.notIn_listAt f pl.isList f1 (by rw[f2];exact⟨.bl _,H,I,rfl,q⟩)
 ·obtain⟨a,xs,rfl,hq,rr⟩:=h2.cu;cases ry;obtain⟨its,rv,pl,_⟩:=I.tuple hq;obtain⟨f,f1,f2⟩:=oZ I hr rx h1 rv rr e;exact SeqAt.notIn_tupleAt f pl f1 (by rw[f2];exact⟨.bl _,H,I,rfl,q⟩)
def Q6(K:PySem.W.Frag):R2:=λx y H Q=>Mw K false x y H Q\/∃ i j,x=.str i/\y=.str j/\Q (.bl (!(Builtin.Str.occurrences j i 0 j.length 1).isEmpty)) H
def El(K:PySem.W.Frag):R2:=λx y H Q=>Mw K true x y H Q\/∃ i j,x=.str i/\y=.str j/\Q (.bl (!(!(Builtin.Str.occurrences j i 0 j.length 1).isEmpty))) H
theorem Q7(hr:cB k X.A):OpR X (compareOp .In) (Q6 X.K):=OpR.or (Q5 hr) Gx
theorem Hb(hr:cB k X.A):OpR X (compareOp .NotIn) (El X.K):=OpR.or (Ha hr) wJ
def O6(K:PySem.W.Frag):R2:=λx y H Q=>rI0 (λi j=>.int (i+j)) x y H Q\/(∃ i j,x=.str i/\y=.str j/\i.length+j.length<=sizeLine/\Q (.str (i++j)) H)\/O1 K x y H Q
theorem bZ:OpR X (binaryOp .Add) (O6 X.K):=OpR.or Qt (OpR.or Bx Ma)
def O7:R2:=λx y H Q=>rI Bu (λi j=>.int (i*j)) x y H Q\/∃ z n,x=.str z/\y=.int n/\-(2^63)<=n/\n<2^63/\z.length*n.toNat<=sizeLine/\Q (.str ⟨(List.replicate n.toNat z.cps).foldl (·++·) #[]⟩) H
theorem o7:OpR X (binaryOp .Mult) O7:=by
 refine OpR.or Qu ?_;intro pins s σ H x y v u Q I rx ry h;obtain⟨z,n,rfl,rfl,h1,h2,h3,q⟩:=h;obtain⟨t,rfl⟩:=rx;obtain⟨t',rfl⟩:=ry;have fin:∀ t k,EP X pins σ Q (.str ⟨(List.replicate n.toNat z.cps).foldl (·++·) #[]⟩ t) { s with toks:=k }:=λt k=>⟨.str _,H,I.tok _,⟨t,rfl⟩,q⟩;have hr:(decide (n < -(2^63:Int))||decide (n>=2^63))=false:=by
  rw[Zaq (by omega),Zaq (by omega)];rfl
 refine PySem.P.mul_str hr (λh4 h5=>?_) (λh4 h5=>?_) ?_
 ·have hn:1<=n:=by omega
  have h6:z.length<=sizeLine:=by
   have:z.length*1<=z.length*n.toNat:=Nat.mul_le_mul_left _ (by omega)
   omega
  have h7:n≠1:=λe=>by subst e;simp at h5
  have h8:(z.length:Int)*n<=16777216:=by
   have e:(z.length:Int)*n=((z.length*n.toNat:Nat):Int):=by
    rw[Int.natCast_mul,Int.toNat_of_nonneg (by omega)]
   rw[e];have:z.length*n.toNat<=16777216:=h3;omega
  have h9:(z.length:Int)<=(2^63-1)/n:=by
   apply(Int.le_ediv_iff_mul_le (by omega)).mpr
   omega
  omega
 ·unfold Builtin.Str.tooLong;exact Zaq (by omega)
 ·by_cases h4:n<1
  ·rw[Zae h4];have e:n.toNat=0:=by omega
   rw[e] at fin;exact⟨Zbp _,fin _ _⟩
  ·rw[Zaf h4];refine post_val_or_str ⟨?_,λt' k=>?_⟩
   ·have e1:∀ (m:Nat) (acc:Array Nat),((List.replicate m z.cps).foldl (·++·) acc).size=acc.size+m*z.cps.size:=λm=>by
     induction m with
     |zero=>intro acc;simp
     |succ m ih=>intro acc;rw[ZaJ,ZbX,ih,Array.size_append,Nat.succ_mul];omega
    have h6:z.length<=sizeLine:=by
     have:z.length*1<=z.length*n.toNat:=Nat.mul_le_mul_left _ (by omega)
     omega
    split
    ·exact h6
    ·show((List.replicate n.toNat z.cps).foldl (·++·) #[]).size<=sizeLine
     rw[e1,Nat.mul_comm];show 0+z.length*n.toNat<=_
     omega
   ·have fz:=fin t' k;split
    ·rename_i h5;have e:(⟨(List.replicate n.toNat z.cps).foldl (·++·) #[]⟩:Str)=z:=by
      rcases Bool.or_eq_true _ _▸h5 with h|h
      ·have:n=1:=by simpa using h
       subst this;show(⟨#[]++z.cps⟩:Str)=z
       rw[Array.empty_append]
      ·have h1:z.length=0:=by simpa using h
       have h0:z.cps=#[]:=Array.eq_empty_of_size_eq_zero h1;have e2:∀ m:Nat,(List.replicate m (#[]:Array Nat)).foldl (·++·) #[]=#[]:=λm=>by
        induction m with
        |zero=>rfl
        |succ m ih=>rw[ZaJ,ZbX];exact ih
       cases z with
       |mk c=>cases h0;rw[e2]
     rw[e] at fz;exact fz
    ·exact fz
def Tc:R2:=λx y H Q=>rI0 (λi j=>.bl (decide (i<j))) x y H Q\/∃ i j,x=.str i/\y=.str j/\Q (.bl (decide (i.cps.toList<j.cps.toList))) H
theorem pZ:OpR X (compareOp .Lt) Tc:=OpR.or Sd Gw
def Td:R2:=λx y H Q=>rI0 (λi j=>.bl (decide (i<=j))) x y H Q\/∃ i j,x=.str i/\y=.str j/\Q (.bl (!(decide (j.cps.toList<i.cps.toList)))) H
theorem lB:OpR X (compareOp .LtE) Td:=OpR.or Sg GK
theorem Hc(l b:Addr)(i1 i2:Array Value)(n1 n2:Nat)(s1 s2:Array (Option Value))(hz:i1.size+i2.size<=sizeLine) :
  Meets (Builtin.«list.__add__» ⟨[.ref l,.ref b],[]⟩) (λ_ R s=>s.heap.get? l=some ⟨.type "list",none,.seq i1 n1,s1⟩/\s.heap.get? b=some ⟨.type "list",none,.seq i2 n2,s2⟩ /\
   R (.ok (.ret (Value.ref s.heap.objs.size))) { s with heap:=s.heap.push { cls:=Value.type "list",data:=Data.seq (i1++i2) } }):=by
 refine .of_wp λprog w A R s h=>?_;obtain⟨hp,g,d,tk,os⟩:=s;obtain⟨h1,h2,h⟩:=h;have f1:=AutoSeq1.idx_int;have f2:=AutoSeq1.sub_tuple_tuple;have f3:=AutoSeq1.sub_list_list;have f4:=AutoSeq1.sub_tuple_list;have f5:=AutoSeq1.sub_list_tuple
 wp_walk using AutoSeq1.wpAny_loadPart' h1,AutoSeq1.wpAny_loadPart' h2
 exact⟨_,rfl,h⟩
theorem rM:OpR X (binaryOp .Add) (λx y H Q=>∃ l b xs zs,x=.ref l/\y=.ref b/\SqL X.K H l xs/\SqL X.K H b zs/\xs.length+zs.length<=sizeLine/\∀ p,H p=none->Q (.ref p) (upd H p (.lst (xs++zs)))):=by
 intro pins s σ H x y v u Q I rx ry h;obtain⟨l,b,xs,zs,rfl,rfl,hH,hB,hz,q⟩:=h;cases rx;cases ry;obtain⟨its,r,⟨⟨cl1,dd1,da1,sl1⟩,n1,g1,c1,d1,e1⟩,z1⟩:=I.list hH;obtain⟨its2,r2,⟨⟨cl2,dd2,da2,sl2⟩,n2,g2,c2,d2,e2⟩,z2⟩:=I.list hB;simp only at c1 d1 e1 c2 d2 e2;subst c1 d1 e1 c2 d2 e2;have hs:its.toArray.size+its2.toArray.size<=sizeLine:=by rw[List.size_toArray,List.size_toArray,<-r.length,<-r2.length];exact hz
 refine concat_meets ⟨_,g1,rfl⟩ ⟨_,g2,rfl⟩ noFill_list_add seq_list_add F.slot_list_add F.entry_list_add (F.args_list_add_2 _ _) (Hc l b its.toArray its2.toArray n1 n2 sl1 sl2 hs) ⟨g1,g2,?_⟩;have ea:its.toArray++its2.toArray=(its++its2).toArray:=by simp
 rw[ea];exact⟨.ref _,_,I.SM (t':=s.toks) (r.append r2) (by rw[Zaw];lia),rfl,q _ I.fresh⟩
end
theorem noS{α:Type}{r:α}{C:Prop}(e:(none:Option α)=some r):C:=by cases e
def opI(c:Int->Int->Bool)(f:Int->Int->PV):PV->PV->Option (Res PV)
 |.int i,.int j=>if c i j=true then some (.ok (f i j)) else none
 |_,_=>none
def cT:Int->Int->Bool:=λ_ _=>true
def JK:Int->Int->Bool:=λi j=>decide ((-(2^64)<i/\i<2^64)\/(-(2^64)<j/\j<2^64))
def Q8:Int->Int->Bool:=λ_ j=>decide (0<j/\j<1073741824)
def Te:Int->Int->Bool:=λ_ j=>decide (0<j)
def JL:Int->Int->Bool:=λi j=>decide (0<=j/\j<=1000000/\i.natAbs<2^64)
def vP:=opI cT λi j=>.int (i-j)
def lC:=opI Q8 λi j=>.int (i/j)
def fL:=opI Te λi j=>.int (i%j)
def zm:=opI JL λi j=>.int (i^j.toNat)
def tH:=opI JL λi j=>.int (i*2^j.toNat)
def zp:=opI cT λi j=>.int (Builtin.bitAnd i j)
def Hd:=opI cT λi j=>.int (Builtin.bitOr i j)
def Em:=opI cT λi j=>.int (Builtin.bitXor i j)
def Mx:=opI cT λi j=>.bl (decide (j<=i))
def dh:PV->PV->Option (Res PV)
 |.int i,.int j=>some (.ok (.int (i+j)))
 |.str i,.str j=>if i.length+j.length<=sizeLine then some (.ok (.str (i++j))) else none
 |.tup l,.tup m=>if l≠[]/\l.length+m.length<=sizeLine then some (.ok (.tup (l++m))) else none
 |_,_=>none
def zq(z:Str)(n:Nat):Str:=⟨(List.replicate n z.cps).foldl (·++·) #[]⟩
def qM:PV->PV->Option (Res PV)
 |.int i,.int j=>if JK i j=true then some (.ok (.int (i*j))) else none
 |.str z,.int n=>if -(2^63)<=n/\n<2^63/\z.length*n.toNat<=sizeLine then some (.ok (.str (zq z n.toNat))) else none
 |_,_=>none
def xf:PV->PV->Option (Res PV)
 |.int i,.int j=>some (.ok (.bl (decide (i<j))))
 |.str i,.str j=>some (.ok (.bl (decide (i.cps.toList<j.cps.toList))))
 |_,_=>none
def tK:PV->PV->Option (Res PV)
 |.int i,.int j=>some (.ok (.bl (decide (i<=j))))
 |.str i,.str j=>some (.ok (.bl (!(decide (j.cps.toList<i.cps.toList)))))
 |_,_=>none
def kY(p q:PV):Option (Res PV):=match eqF 32 p q with
 |some r=>some (.ok (.bl r))
 |none=>none
def vd(p q:PV):Option (Res PV):=match eqF 32 p q with
 |some r=>some (.ok (.bl (!r)))
 |none=>none
def inU(p:PV):PV->Option Bool
 |.lst l=>inF p l
 |.tup l=>inF p l
 |.str j=>match p with
  |.str i=>some (!(Builtin.Str.occurrences j i 0 j.length 1).isEmpty)
  |_=>none
 |_=>none
def Hf(p q:PV):Option (Res PV):=match inU p q with
 |some r=>some (.ok (.bl r))
 |none=>none
def mR(p q:PV):Option (Res PV):=match inU p q with
 |some r=>some (.ok (.bl (!r)))
 |none=>none
def PV.tL:PV->Bool
 |.non=>true
 |_=>false
def ofO(x:Option PV):Option (Res PV):=match x with
 |some p=>some (.ok p)
 |none=>none
def bW:PV->PV->Option (Res PV)
 |.lst l,.int i=>ofO (atI l i)
 |.tup l,.int i=>ofO (atI l i)
 |.str z,.int i=>if z.length<=sizeLine then ofO ((atI z.cps.toList i).map λc=>.str ⟨#[c]⟩) else none
 |_,_=>none
def vQ:List PV->PV->Option (Res PV)
 |l,.int i=>ofO (atI l i)
 |_,_=>none
section
variable{K:PySem.W.Frag}{C:Cg}{F H:Hp}
theorem Tf{i j:Int}(h:Q8 i j=true):Qs i j:=of_decide_eq_true (p:=0<j/\j<1073741824) h
theorem O8{i j:Int}(h:JL i j=true):IW i j:=of_decide_eq_true (p:=0<=j/\j<=1000000/\i.natAbs<2^64) h
theorem Tg{i j:Int}(h:JK i j=true):Bu i j:=of_decide_eq_true (p:=(-(2^64)<i/\i<2^64)\/(-(2^64)<j/\j<2^64)) h
theorem zr{c:Int->Int->Bool}{f:Int->Int->PV}{cond:Int->Int->Prop}{fv:Int->Int->V}(hc:∀ i j,c i j=true->cond i j)(hf:∀ i j F,Rep K F (fv i j) (f i j)):R2M C (aF K) (aF K) (aF K) (rI cond fv) (opI c f):=by
 intro F H x y a b res Q s ha hb e P;have inv:(∃ i j,a=.int i/\b=.int j):=by
  clear P ha hb
  cases a<;>first|exact noS e|(cases b<;>first|exact noS e|exact⟨_,_,rfl,rfl⟩)
 obtain⟨i,j,rfl,rfl⟩:=inv;cases Rep.aX ha;cases Rep.aX hb;have e:(if c i j=true then some (Res.ok (f i j)) else none)=some res:=e;split at e
 ·rename_i h;cases e;exact⟨i,j,rfl,rfl,hc i j h,P _ F H (Up.refl s) (hf i j F)⟩
 ·cases e
theorem tM{f:Int->Int->PV}{fv:Int->Int->V}(hf:∀ i j F,Rep K F (fv i j) (f i j)):R2M C (aF K) (aF K) (aF K) (rI0 fv) (opI cT f):=by
 intro F H x y a b res Q s ha hb e P;have inv:(∃ i j,a=.int i/\b=.int j):=by
  clear P ha hb
  cases a<;>first|exact noS e|(cases b<;>first|exact noS e|exact⟨_,_,rfl,rfl⟩)
 obtain⟨i,j,rfl,rfl⟩:=inv;cases Rep.aX ha;cases Rep.aX hb;cases e;exact⟨i,j,rfl,rfl,P _ F H (Up.refl s) (hf i j F)⟩
theorem JM:R2M C (aF K) (aF K) (aF K) (rI0 λi j=>.int (i-j)) vP:=tM λ_ _ _=>.int
theorem qN:R2M C (aF K) (aF K) (aF K) (rI Qs λi j=>.int (i/j)) lC:=zr (λ_ _ h=>Tf h) λ_ _ _=>.int
theorem gY:R2M C (aF K) (aF K) (aF K) (rI (λ_ j=>0<j) λi j=>.int (i%j)) fL:=zr (λ_ _ h=>of_decide_eq_true h) λ_ _ _=>.int
theorem O9:R2M C (aF K) (aF K) (aF K) (rI IW λi j=>.int (i^j.toNat)) zm:=zr (λ_ _ h=>O8 h) λ_ _ _=>.int
theorem En:R2M C (aF K) (aF K) (aF K) (rI IW λi j=>.int (i*2^j.toNat)) tH:=zr (λ_ _ h=>O8 h) λ_ _ _=>.int
theorem Pa:R2M C (aF K) (aF K) (aF K) (rI0 λi j=>.int (Builtin.bitAnd i j)) zp:=tM λ_ _ _=>.int
theorem Q9:R2M C (aF K) (aF K) (aF K) (rI0 λi j=>.int (Builtin.bitOr i j)) Hd:=tM λ_ _ _=>.int
theorem Th:R2M C (aF K) (aF K) (aF K) (rI0 λi j=>.int (Builtin.bitXor i j)) Em:=tM λ_ _ _=>.int
theorem Ui:R2M C (aF K) (aF K) (aF K) (rI0 λi j=>.bl (decide (j<=i))) Mx:=tM λ_ _ _=>.bl
theorem dW:R2M C (aF K) (aF K) (aF K) (O6 K) dh:=by
 intro F H x y a b res Q s ha hb e P;have inv:(∃ i j,a=.int i/\b=.int j)\/(∃ i j,a=.str i/\b=.str j)\/(∃ l m,a=.tup l/\b=.tup m):=by
  clear P ha hb
  cases a<;>first|exact noS e|(cases b<;>first|exact noS e|exact .inl ⟨_,_,rfl,rfl⟩|exact .inr (.inl ⟨_,_,rfl,rfl⟩)|exact .inr (.inr ⟨_,_,rfl,rfl⟩))
 rcases inv with⟨i,j,rfl,rfl⟩|⟨i,j,rfl,rfl⟩|⟨l,m,rfl,rfl⟩
 ·cases Rep.aX ha;cases Rep.aX hb;cases e;exact .inl ⟨i,j,rfl,rfl,P _ F H (Up.refl s) .int⟩
 ·cases Rep.bF ha;cases Rep.bF hb;have e:(if i.length+j.length<=sizeLine then some (Res.ok (PV.str (i++j))) else none)=some res:=e;split at e
  ·rename_i h;cases e;exact .inr (.inl ⟨i,j,rfl,rfl,h,P _ F H (Up.refl s) .str⟩)
  ·cases e
 ·have e:(if l≠[]/\l.length+m.length<=sizeLine then some (Res.ok (PV.tup (l++m))) else none)=some res:=e;split at e
  ·rename_i h;cases e;obtain⟨a1,xs,rfl,h1,r1⟩:=Rep.cu ha;obtain⟨a2,ys,rfl,h2,r2⟩:=Rep.cu hb;have hx:xs≠[]:=λz=>h.1 (by have:=r1.1;rw[z] at this;simpa using this.symm)
   refine .inr (.inr ⟨a1,a2,xs,ys,rfl,rfl,s.tup h1,s.tup h2,hx,by rw[r1.1,r2.1];exact h.2,λz=>?_,λ_ p hp=>?_⟩)
   ·subst z;have hm:m=[]:=by have:=r2.1;simpa using this.symm
    subst hm;rw[Zaz] at P;exact P _ F H (Up.refl s) ha
   ·have un:=Up.new (o:=.tup (xs++ys)) s hp;exact P _ _ _ un (.tup aP (r1.append r2).1 ((r1.append r2).up un.ff).2)
  ·cases e
theorem zu:R2M C (aF K) (aF K) (aF K) O7 qM:=by
 intro F H x y a b res Q s ha hb e P;have inv:(∃ i j,a=.int i/\b=.int j)\/(∃ z n,a=.str z/\b=.int n):=by
  clear P ha hb
  cases a<;>first|exact noS e|(cases b<;>first|exact noS e|exact .inl ⟨_,_,rfl,rfl⟩|exact .inr ⟨_,_,rfl,rfl⟩)
 rcases inv with⟨i,j,rfl,rfl⟩|⟨z,n,rfl,rfl⟩
 ·cases Rep.aX ha;cases Rep.aX hb;have e:(if JK i j=true then some (Res.ok (PV.int (i*j))) else none)=some res:=e;split at e
  ·rename_i h;cases e;exact .inl ⟨i,j,rfl,rfl,Tg h,P _ F H (Up.refl s) .int⟩
  ·cases e
 ·cases Rep.bF ha;cases Rep.aX hb;have e:(if -(2^63)<=n/\n<2^63/\z.length*n.toNat<=sizeLine then some (Res.ok (PV.str (zq z n.toNat))) else none)=some res:=e;split at e
  ·rename_i h;cases e;exact .inr ⟨z,n,rfl,rfl,h.1,h.2.1,h.2.2,P _ F H (Up.refl s) .str⟩
  ·cases e
theorem Hg:R2M C (aF K) (aF K) (aF K) Tc xf:=by
 intro F H x y a b res Q s ha hb e P;have inv:(∃ i j,a=.int i/\b=.int j)\/(∃ i j,a=.str i/\b=.str j):=by
  clear P ha hb
  cases a<;>first|exact noS e|(cases b<;>first|exact noS e|exact .inl ⟨_,_,rfl,rfl⟩|exact .inr ⟨_,_,rfl,rfl⟩)
 rcases inv with⟨i,j,rfl,rfl⟩|⟨i,j,rfl,rfl⟩
 ·cases Rep.aX ha;cases Rep.aX hb;cases e;exact .inl ⟨i,j,rfl,rfl,P _ F H (Up.refl s) .bl⟩
 ·cases Rep.bF ha;cases Rep.bF hb;cases e;exact .inr ⟨i,j,rfl,rfl,P _ F H (Up.refl s) .bl⟩
theorem zx:R2M C (aF K) (aF K) (aF K) Td tK:=by
 intro F H x y a b res Q s ha hb e P;have inv:(∃ i j,a=.int i/\b=.int j)\/(∃ i j,a=.str i/\b=.str j):=by
  clear P ha hb
  cases a<;>first|exact noS e|(cases b<;>first|exact noS e|exact .inl ⟨_,_,rfl,rfl⟩|exact .inr ⟨_,_,rfl,rfl⟩)
 rcases inv with⟨i,j,rfl,rfl⟩|⟨i,j,rfl,rfl⟩
 ·cases Rep.aX ha;cases Rep.aX hb;cases e;exact .inl ⟨i,j,rfl,rfl,P _ F H (Up.refl s) .bl⟩
 ·cases Rep.bF ha;cases Rep.bF hb;cases e;exact .inr ⟨i,j,rfl,rfl,P _ F H (Up.refl s) .bl⟩
theorem tO:R2M C (aH K) (aH K) (aF K) (Q4 K) kY:=by
 intro F H x y a b res Q s ha hb e P;unfold kY at e;split at e
 ·rename_i r h;cases e;exact⟨a,b,r,ha,hb,h,P _ F H (Up.refl s) .bl⟩
 ·cases e
theorem Ra:R2M C (aH K) (aH K) (aF K) (S9 K) vd:=by
 intro F H x y a b res Q s ha hb e P;unfold vd at e;split at e
 ·rename_i r h;cases e;exact⟨a,b,r,ha,hb,h,P _ F H (Up.refl s) .bl⟩
 ·cases e
theorem Uj:R2M C (aH K) (aH K) (aF K) (Q6 K) Hf:=by
 intro F H x y a b res Q s ha hb e P;unfold Hf at e;split at e
 ·rename_i r h;cases e
  match b,h with
  |.lst l,h=>exact .inl ⟨a,l,r,ha,.inl hb,h,P _ F H (Up.refl s) .bl⟩
  |.tup l,h=>exact .inl ⟨a,l,r,ha,.inr hb,h,P _ F H (Up.refl s) .bl⟩
  |.str j,h=>
   match a,h with
   |.str i,h=>
    cases h;exact .inr ⟨i,j,Rep.bF ha,Rep.bF hb,P _ F H (Up.refl s) .bl⟩
 ·cases e
theorem My:R2M C (aH K) (aH K) (aF K) (El K) mR:=by
 intro F H x y a b res Q s ha hb e P;unfold mR at e;split at e
 ·rename_i r h;cases e
  match b,h with
  |.lst l,h=>exact .inl ⟨a,l,r,ha,.inl hb,h,P _ F H (Up.refl s) .bl⟩
  |.tup l,h=>exact .inl ⟨a,l,r,ha,.inr hb,h,P _ F H (Up.refl s) .bl⟩
  |.str j,h=>
   match a,h with
   |.str i,h=>
    cases h;exact .inr ⟨i,j,Rep.bF ha,Rep.bF hb,P _ F H (Up.refl s) .bl⟩
 ·cases e
theorem xg{xs:List V}{l:List PV}{i:Int}{p:PV}(r:bz K F xs l)(h:atI l i=some p):∃ v,atI xs i=some v/\Rep K F v p:=by
 unfold atI at h ⊢;rw[r.1];cases e:ixN l.length i with
 |none=>rw[e] at h;cases h
 |some j=>
  rw[e] at h;exact r.get h
theorem o8{x:Option PV}{res:Res PV}(h:ofO x=some res):∃ p,x=some p/\res=.ok p:=by
 cases x with
 |none=>cases h
 |some p=>cases h;exact⟨p,rfl,rfl⟩
theorem b8:R2M C (aF K) (aF K) (aF K) (rIx K) bW:=by
 intro F H x y a b res Q s ha hb e P;have inv:(∃ l i,a=.lst l/\b=.int i)\/(∃ l i,a=.tup l/\b=.int i)\/(∃ z i,a=.str z/\b=.int i):=by
  clear P ha hb
  cases a<;>first|exact noS e|(cases b<;>first|exact noS e|exact .inl ⟨_,_,rfl,rfl⟩|exact .inr (.inl ⟨_,_,rfl,rfl⟩)|exact .inr (.inr ⟨_,_,rfl,rfl⟩))
 rcases inv with⟨l,i,rfl,rfl⟩|⟨l,i,rfl,rfl⟩|⟨z,i,rfl,rfl⟩
 ·cases Rep.aX hb;obtain⟨p,e1,rfl⟩:=o8 e;obtain⟨a1,xs,rfl,h1,r1⟩:=Rep.cH ha;obtain⟨v,e2,rv⟩:=xg r1 e1;exact .inl ⟨a1,xs,i,v,rfl,rfl,s.seq h1,e2,P _ F H (Up.refl s) rv⟩
 ·cases Rep.aX hb;obtain⟨p,e1,rfl⟩:=o8 e;obtain⟨a1,xs,rfl,h1,r1⟩:=Rep.cu ha;obtain⟨v,e2,rv⟩:=xg r1 e1;exact .inr (.inl ⟨a1,xs,i,v,rfl,rfl,s.tup h1,e2,P _ F H (Up.refl s) rv⟩)
 ·cases Rep.aX hb;cases Rep.bF ha;have e:(if z.length<=sizeLine then ofO ((atI z.cps.toList i).map λc=>PV.str ⟨#[c]⟩) else none)=some res:=e;split at e
  ·rename_i hz;obtain⟨p,e1,rfl⟩:=o8 e;cases e2:atI z.cps.toList i with
   |none=>rw[e2] at e1;cases e1
   |some c=>
    rw[e2] at e1;cases e1;exact .inr (.inr ⟨z,i,c,rfl,rfl,hz,e2,P _ F H (Up.refl s) .str⟩)
  ·cases e
theorem Eo:R2M C (aV K) (aF K) (aF K) (rIx K) vQ:=by
 intro F H x y a b res Q s ha hb e P
 match b,e with
 |.int i,e=>
  cases Rep.aX hb;obtain⟨p,e1,rfl⟩:=o8 e;obtain⟨a1,xs,rfl,h1,r1⟩:=ha;obtain⟨v,e2,rv⟩:=xg r1 e1;exact .inl ⟨a1,xs,i,v,rfl,rfl,h1,e2,P _ F H (Up.refl s) rv⟩
def tQ(l m:List PV):Option (Res PV):=if l.length+m.length<=sizeLine then some (.ok (.lst (l++m))) else none
def Ti(K:PySem.W.Frag):R2:=λx y H Q=>∃ l b xs zs,x=.ref l/\y=.ref b/\SqL K H l xs/\SqL K H b zs/\xs.length+zs.length<=sizeLine/\∀ p,H p=none->Q (.ref p) (upd H p (.lst (xs++zs)))
theorem Ep:R2O K C (aV K) (aV K) (Ti K) tQ:=by
 intro F H x y a b res Q s ha hb e P;unfold tQ at e;split at e
 ·rename_i h;cases e;obtain⟨a1,xs,rfl,h1,r1⟩:=ha;obtain⟨a2,ys,rfl,h2,r2⟩:=hb;refine⟨a1,a2,xs,ys,rfl,rfl,h1,h2,by rw[r1.1,r2.1];exact h,λp hp=>?_⟩
  exact P p F _ (Up.u9 s hp) hp (s.free hp) ⟨_,aP,r1.append r2⟩
 ·cases e
variable{ta tb te:TE}
def JN:PV->PV->Option (Res PV)
 |.lst l,.int k=>if -(2^63)<=k/\k<2^63/\l.length*k.toNat<=sizeLine then some (.ok (.lst (List.replicate k.toNat l).flatten)) else none
 |_,_=>none
def Rc(f g:Fn PV):Fn PV:=m2 JN f g
theorem bz.rep{xs:List V}{l:List PV}(h:bz K F xs l):∀ n:Nat,bz K F (List.replicate n xs).flatten (List.replicate n l).flatten
 |0=>.nil
 |n+1=>by
  rw[ZaJ,Za4,ZaJ,Za4];exact h.append (bz.rep h n)
theorem Rf{f g:Fn PV}(ha:MO K C ta f)(hb:MJ K C (aF K) tb g):MO K C (tOp SN ta tb) (Rc f g):=by
 intro F H σ ρ Q r R e P;refine ha.run R e P λp a F1 H1 hk u n1 n2 w=>?_;refine hb.run (R.up u) hk (P.pW u) λq v F2 H2 hk2 u2 b=>?_
 match p,q,hk2 with
 |.lst l,.int k,hk2=>
  cases Rep.aX b;have hk2:(if -(2^63)<=k/\k<2^63/\l.length*k.toNat<=sizeLine then some (Res.ok (PV.lst (List.replicate k.toNat l).flatten)) else none)=some r:=hk2;split at hk2
  ·rename_i h;cases hk2;obtain⟨xs,e1,r1⟩:=w;refine⟨a,k,xs,rfl,rfl,u2.hh _ _ e1,h.1,h.2.1,by rw[r1.1];exact h.2.2,λp hp=>?_⟩
   exact P p F2 _ (u.trans (u2.trans (Up.u9 u2.fh hp))) ((u.hh.trans u2.hh).free hp) (u2.fh.free hp) ⟨_,aP,(r1.up u2.ff).rep _⟩
  ·cases hk2
def MP'(K:PySem.W.Frag)(C:Cg)(t:TO)(f:Fn (Option Int)):Prop:=
 ∀ F H σ ρ Q r,RE K C.toCf F H σ ρ->f ρ=some r->Pr C F (λo=>∀ F' H',Up F H F' H'->Q o H') r->t σ H Q
def mPn:Fn (Option Int):=λ_=>some (.ok none)
def asInt:PV->Option (Res (Option Int))
 |.int i=>some (.ok (some i))
 |_=>none
theorem mU:MP' K C Eb mPn:=λF H σ ρ Q r R e P=>by
 cases e;exact P F H (Up.refl R.rb.sub)
theorem iB{f:Fn PV}(h:MJ K C (aF K) te f):MP' K C (OJ te) (m1 asInt f):=by
 intro F H σ ρ Q r R e P;refine h.run R e P λp v F1 H1 hk u a=>?_
 match p,hk with
 |.int i,hk=>
  cases Rep.aX a;cases hk;exact⟨i,rfl,P F1 H1 u⟩
theorem MP'.run{β:Type}{t:TO}{f:Fn (Option Int)}{σ:St}{ρ:Rho}{Q:Option Int->Hp->Prop}{ok:β->Prop}{k:Option Int->Option (Res β)}{r:Res β}(h:MP' K C t f)(R:RE K C.toCf F H σ ρ)(hb:bnd (f ρ) k=some r)(P:Pr C F ok r)
  (go:∀ o F1 H1,k o=some r->Up F H F1 H1->Q o H1):t σ H Q:=by
 rcases bx hb with⟨z,e,rfl⟩|⟨p,e,hk⟩
 ·exact h F H σ ρ Q _ R e P
 ·exact h F H σ ρ Q _ R e λF1 H1 u=>go p F1 H1 hk u
def o9(l:List PV)(lo hi:Option Int):List PV:=(l.drop (HT.sIx l.length 0 lo)).take (HT.sIx l.length l.length hi-HT.sIx l.length 0 lo)
theorem bz.cut{xs:List V}{l:List PV}(h:bz K F xs l)(lo hi:Option Int):bz K F (wL xs lo hi) (o9 l lo hi):=by
 unfold wL o9;rw[h.1];exact(h.drop _).take _
def Mz(f:Fn (List PV))(lo hi:Fn (Option Int)):Fn PV:=λρ=>bnd (f ρ) λl=>bnd (lo ρ) λa=>bnd (hi ρ) λb=>some (.ok (.lst (o9 l a b)))
theorem Rg{f:Fn (List PV)}{lo hi:Fn (Option Int)}{tl th:TO}(h:MJ K C (aV K) te f)(hl:MP' K C tl lo)(hh:MP' K C th hi):MO K C (tSl (Sy K) te tl th) (Mz f lo hi):=by
 intro F H σ ρ Q r R e P;refine h.run R e P λl v F1 H1 hk u a=>?_;refine hl.run (R.up u) hk (P.pW u) λo F2 H2 hk2 u2=>?_;refine hh.run (R.up (u.trans u2)) hk2 (P.pW (u.trans u2)) λo2 F3 H3 hk3 u3=>?_;cases hk3;obtain⟨b,xs,rfl,h1,r1⟩:=a;have u23:=u2.trans u3;refine⟨b,xs,rfl,u23.hh.seq h1,λp hp=>?_⟩;exact P p F3 _ (u.trans (u23.trans (Up.u9 u3.fh hp))) ((u.hh.trans u23.hh).free hp) (u3.fh.free hp) ⟨_,aP,(r1.up u23.ff).cut _ _⟩
def JP(a b:Option Int):PV->Option (Res PV)
 |.str z=>if z.length<=sizeLine then some (.ok (.str (Txt.slice z a b))) else none
 |_=>none
def JQ(f:Fn PV)(lo hi:Fn (Option Int)):Fn PV:=λρ=>bnd (f ρ) λz=>bnd (lo ρ) λa=>bnd (hi ρ) λb=>JP a b z
theorem JR{f:Fn PV}{lo hi:Fn (Option Int)}{tl th:TO}(h:MJ K C (aF K) te f)(hl:MP' K C tl lo)(hh:MP' K C th hi):MJ K C (aF K) (tSl S5 te tl th) (JQ f lo hi):=by
 intro F H σ ρ Q r R e P;refine h.run R e P λl v F1 H1 hk u a=>?_;refine hl.run (R.up u) hk (P.later u) λo F2 H2 hk2 u2=>?_;refine hh.run (R.up (u.trans u2)) hk2 (P.later (u.trans u2)) λo2 F3 H3 hk3 u3=>?_
 match l,hk3 with
 |.str z,hk3=>
  cases Rep.bF a;have hk3:(if z.length<=sizeLine then some (Res.ok (PV.str (Txt.slice z o o2))) else none)=some r:=hk3;split at hk3
  ·rename_i hz;cases hk3;exact⟨z,rfl,hz,P _ F3 H3 (u.trans (u2.trans u3)) .str⟩
  ·cases hk3
def JS(a b:Option Int):PV->Option (Res PV)
 |.tup l=>if ¬(HT.sIx l.length 0 a=0/\HT.sIx l.length l.length b=l.length) then some (.ok (.tup (o9 l a b))) else none
 |_=>none
def Cm(f:Fn PV)(lo hi:Fn (Option Int)):Fn PV:=λρ=>bnd (f ρ) λz=>bnd (lo ρ) λa=>bnd (hi ρ) λb=>JS a b z
theorem xj{f:Fn PV}{lo hi:Fn (Option Int)}{tl th:TO}(h:MJ K C (aF K) te f)(hl:MP' K C tl lo)(hh:MP' K C th hi):MJ K C (aF K) (tSl (Su K) te tl th) (Cm f lo hi):=by
 intro F H σ ρ Q r R e P;refine h.run R e P λl v F1 H1 hk u a=>?_;refine hl.run (R.up u) hk (P.later u) λo F2 H2 hk2 u2=>?_;refine hh.run (R.up (u.trans u2)) hk2 (P.later (u.trans u2)) λo2 F3 H3 hk3 u3=>?_
 match l,hk3 with
 |.tup l,hk3=>
  have hk3:(if ¬(HT.sIx l.length 0 o=0/\HT.sIx l.length l.length o2=l.length) then some (Res.ok (PV.tup (o9 l o o2))) else none)=some r:=hk3;split at hk3
  ·rename_i hz;cases hk3;obtain⟨b,xs,rfl,h1,r1⟩:=Rep.cu a;have u23:=u2.trans u3;refine⟨b,xs,rfl,(u23.ff.trans u3.fh).tup h1,by rw[r1.1];exact hz,λp hp=>?_⟩
   have un:=Up.new (o:=.tup (wL xs o o2)) u3.fh hp;have rc:=(r1.up u23.ff).cut o o2;exact P _ _ _ (u.trans (u23.trans un)) (.tup aP rc.1 (rc.up un.ff).2)
  ·cases hk3
end
def Pb(K:PySem.W.Frag)(tl:TE):TI:=λσ H R=>tl σ H λx H1=>(∃ a,x=.ref a/\(∃ xs,SqL K H1 a xs)/\R (Itl K a) H1)\/(∃ a,x=.ref a/\(∃ xs,SqT K H1 a xs)/\R (Itt K a) H1)\/∃ z,x=.str z/\R (Itf (sgn z) z.cps.size) H1
theorem jQ{X:Cx}{tg l:Expr}{tl:TE}(hl:PE X l tl):PI X tg l (Pb X.K tl):=by
 intro pins s σ H R I h;refine thn (hl pins s σ H _ I h) ?_;rintro v s1 ⟨x,H1,I1,r1,q1⟩;have keep:∀ (o:Obj),Inv X pins σ H1 { s1 with heap:=s1.heap.push o }:=λo=>I1.kept (t':=s1.toks) λb ob e=>Zad _ e;have fp:∀ b∈[s1.heap.objs.size],yO X pins H1 b:=λb hb=>by
  have e:b=s1.heap.objs.size:=by simpa using hb
  subst e;exact I1.R8 (Zak _) (I1.hok.fresh (Zak _))
 rcases q1 with⟨a,rfl,⟨xs,hq⟩,q⟩|⟨a,rfl,⟨xs,hq⟩,q⟩|⟨z,rfl,q⟩
 ·cases r1;obtain⟨its,rv,p,hz⟩:=I1.list hq;exact wpAny_pyIter_list p.isList ⟨_,[_],_,_,H1,rfl,keep _,Gu a _,⟨_,Zas _ rfl,rfl,rfl⟩,fp,q⟩
 ·cases r1;obtain⟨its,rv,p,hz⟩:=I1.tuple hq;exact wpAny_pyIter_tuple (show s1.heap.IsTuple a its.toArray from p) ⟨_,[_],_,_,H1,rfl,keep _,Bs a _,⟨_,Zas _ rfl,rfl,rfl⟩,fp,q⟩
 ·obtain⟨t,rfl⟩:=r1;exact wpAny_pyIter_strU ⟨_,[_],_,_,H1,rfl,keep _,Jr _ z t,⟨_,Zas _ rfl,rfl,rfl⟩,fp,q⟩
section
variable{K:PySem.W.Frag}{C:Cg}{F H:Hp}{σ:St}{ρ:Rho}{te:TE}{tA:TA}{a:Addr}{xs:List V}{l:List PV}
def signs(z:Str):List PV:=z.cps.toList.map λc=>.str ⟨#[c]⟩
def lD:PV->Option (Res (List PV))
 |.lst l=>some (.ok l)
 |.tup l=>some (.ok l)
 |.str z=>some (.ok (signs z))
 |_=>none
theorem JT(h:SqL K F a xs)(r:bz K F xs l):ItR K (Itl K a) F l where
 stop:=λF' H' s s'=>⟨xs,(s.trans s').seq h,by rw[r.1];exact Zak _⟩
 go:=λi F' H' hi s s'=>⟨xs,xs[i]'(by rw[r.1];exact hi),(s.trans s').seq h,by simp⟩
 yld:=λi F' H' x H'' hi s s' y=>by
  obtain⟨rfl,y⟩:=y;have e:=y xs ((s.trans s').seq h);obtain⟨p,e2,rp⟩:=r.got e;exact⟨F',p,Up.refl s',e2,rp.up s⟩
theorem MF(h:SqT K F a xs)(r:bz K F xs l):ItR K (Itt K a) F l where
 stop:=λF' H' s s'=>⟨xs,(s.trans s').tup h,by rw[r.1];exact Zak _⟩
 go:=λi F' H' hi s s'=>⟨xs,xs[i]'(by rw[r.1];exact hi),(s.trans s').tup h,by simp⟩
 yld:=λi F' H' x H'' hi s s' y=>by
  obtain⟨rfl,y⟩:=y;have e:=y xs ((s.trans s').tup h);obtain⟨p,e2,rp⟩:=r.got e;exact⟨F',p,Up.refl s',e2,rp.up s⟩
theorem MK(z:Str):ItR K (Itf (sgn z) z.cps.size) F (signs z) where
 stop:=λF' H' s s'=>by simp[signs,Itf]
 go:=λi F' H' hi s s'=>by simpa[signs,Itf] using hi
 yld:=λi F' H' x H'' hi s s' y=>by
  obtain⟨rfl,rfl⟩:=y;have hi':i<z.cps.size:=by simpa[signs] using hi
  refine⟨F',.str ⟨#[z.cps.getD i 0]⟩,Up.refl s',?_,.str⟩;unfold signs;rw[Zai,Array.getElem?_toList,ZbD,Array.getElem?_eq_getElem hi'];rfl
theorem jR{f:Fn PV}(h:MJ K C (aF K) te f):MI K C (Pb K te) (m1 lD f):=by
 intro F H σ ρ R' r R e P;refine h.run R e P λp v F1 H1 hk u a=>?_
 match p,hk with
 |.lst l,hk=>
  cases hk;obtain⟨b,xs,rfl,h1,r1⟩:=Rep.cH a;exact .inl ⟨b,rfl,⟨xs,u.fh.seq h1⟩,P _ F1 H1 u (JT h1 r1)⟩
 |.tup l,hk=>
  cases hk;obtain⟨b,xs,rfl,h1,r1⟩:=Rep.cu a;exact .inr (.inl ⟨b,rfl,⟨xs,u.fh.tup h1⟩,P _ F1 H1 u (MF h1 r1)⟩)
 |.str z,hk=>
  cases hk;cases Rep.bF a;exact .inr (.inr ⟨z,rfl,P _ F1 H1 u (MK z)⟩)
def kZ(lo:Int)(n:Nat):List PV:=(List.range n).map λ(i:Nat)=>.int (lo+(i:Int))
theorem dD(lo:Int)(n:Nat):(kZ lo n).length=n:=by simp[kZ]
theorem xm(lo:Int)(n:Nat):ItR K (Itr lo n) F (kZ lo n) where
 stop:=λF' H' s s'=>by rw[dD];exact Zak _
 go:=λi F' H' hi s s'=>by rw[dD] at hi;exact hi
 yld:=λi F' H' x H'' hi s s' y=>by
  obtain⟨rfl,rfl⟩:=y;rw[dD] at hi;refine⟨F',.int (lo+i),Up.refl s',?_,.int⟩;unfold kZ;rw[Zai,ZbE hi];rfl
def xn:List PV->Option (Res (List PV))
 |[.int j]=>if -(2^62)<=j/\j<2^62 then some (.ok (kZ 0 j.toNat)) else none
 |_=>none
def tR:List PV->Option (Res (List PV))
 |[.int i,.int j]=>if -(2^62)<=i/\i<2^62/\-(2^62)<=j/\j<2^62 then some (.ok (kZ i (j-i).toNat)) else none
 |_=>none
theorem Er{f:Fn (List PV)}(h:MA K C tA f):MI K C (IK tA) (m1 xn f):=by
 intro F H σ ρ R' r R e P;refine h.run R e P λl xs F1 H1 hk u a=>?_;have inv:∃ j,l=[.int j]:=by
  clear P u a
  rcases l with _|⟨x,_|⟨y,l⟩⟩<;>first|exact noS hk|(cases x<;>first|exact noS hk|exact⟨_,rfl⟩)
 obtain⟨j,rfl⟩:=inv;have hk:(if -(2^62)<=j/\j<2^62 then some (Res.ok (kZ 0 j.toNat)) else none)=some r:=hk;split at hk
 ·rename_i hj;cases hk;obtain⟨v,ys,rfl,r1,r2⟩:=a.gV;cases r2.oW;cases Rep.aX r1;exact⟨j,rfl,hj.1,hj.2,P _ F1 H1 u (xm 0 j.toNat)⟩
 ·cases hk
theorem xq{f:Fn (List PV)}(h:MA K C tA f):MI K C (OD tA) (m1 tR f):=by
 intro F H σ ρ R' r R e P;refine h.run R e P λl xs F1 H1 hk u a=>?_;have inv:∃ i j,l=[.int i,.int j]:=by
  clear P u a
  rcases l with _|⟨x,_|⟨y,_|⟨z,l⟩⟩⟩<;>first|exact noS hk|(cases x<;>first|exact noS hk|(cases y<;>first|exact noS hk|exact⟨_,_,rfl⟩))
 obtain⟨i,j,rfl⟩:=inv;have hk:(if -(2^62)<=i/\i<2^62/\-(2^62)<=j/\j<2^62 then some (Res.ok (kZ i (j-i).toNat)) else none)=some r:=hk;split at hk
 ·rename_i hj;cases hk;obtain⟨v,ys,rfl,r1,r2⟩:=a.gV;obtain⟨w,zs,rfl,r3,r4⟩:=r2.gV;cases r4.oW;cases Rep.aX r1;cases Rep.aX r3;exact⟨i,j,rfl,hj,P _ F1 H1 u (xm i (j-i).toNat)⟩
 ·cases hk
def NoO(ρ:Rho):Prop:=∀ (j:Nat) q,ρ[j]?≠some (some (.ow q))/\ρ[j]?≠some (some (.dp q))
def Wr(T:List Nat)(tg:PV->Rho->Option Rho):Prop:=∀ x ρ ρ',tg x ρ=some ρ'->ρ'.length=ρ.length/\(∀ j,j ∉ T->ρ'[j]?=ρ[j]?)/\(NoO ρ->NoO ρ')
theorem ph(i:Nat):Wr [i] (gN i):=λx ρ ρ' e=>by
 cases e;refine⟨by simp,λj hj=>?_,λh j q=>⟨λe=>?_,λe=>?_⟩⟩
 ·rw[Zac (by simpa using ZaS (by simpa using hj))]
 ·rcases get_set e with⟨_,e2⟩|⟨_,e2⟩
  ·cases e2
  ·exact(h j q).1 e2
 ·rcases get_set e with⟨_,e2⟩|⟨_,e2⟩
  ·cases e2
  ·exact(h j q).2 e2
def shOnly:Option Sl->Option Sl
 |some (.sh p)=>some (.sh p)
 |_=>none
def frR(fr:List (Option Nat))(ρ:Rho):Rho:=fr.map λo=>match o with
 |some i=>match ρ[i]? with
  |some v=>shOnly v
  |none=>none
 |none=>none
def fM(tg:PV->Rho->Option Rho)(tst:Fn Bool)(el:Fn PV)(ρb:Rho):List PV->Option (Res (List PV))
 |[]=>some (.ok [])
 |x::xs=>match tg x ρb with
  |none=>none
  |some ρ1=>bnd (tst ρ1) λb=>if b=true then bnd (el ρ1) λp=>bnd (fM tg tst el ρb xs) λr=>some (.ok (p::r)) else fM tg tst el ρb xs
def pq(it:Fn (List PV))(fr:List (Option Nat))(tg:PV->Rho->Option Rho)(tst:Fn Bool)(el:Fn PV):Fn PV:=λρ=>bnd (it ρ) λl=>
 if l.length<=sizeLine then bnd (fM tg tst el (frR fr ρ) l) λr=>some (.ok (.lst r)) else none
def rC:Fn Bool:=λ_=>some (.ok true)
theorem tU:MT K C SQ rC:=λF H σ ρ Q r R e P=>by
 cases e;exact P F H (Up.refl R.rb.sub)
theorem RE.block(R:RE K C.toCf F H σ ρ)(fr:List (Option Nat)):RE K C.toCf F H (frσ fr σ) (frR fr ρ)/\NoO (frR fr ρ):=by
 have nd:∀ (j:Nat) q,(frR fr ρ)[j]?≠some (some (.dp q)):=λj q e=>by
  unfold frR at e;rw[Zai] at e;cases e1:fr[j]? with
  |none=>rw[e1] at e;cases e
  |some o=>
   rw[e1] at e;cases o with
   |none=>cases e
   |some i=>
    simp only[Zbm,ZbP] at e;split at e
    ·rename_i v hv;unfold shOnly at e;split at e<;>cases e
    ·cases e
 have no:∀ (j:Nat) q,(frR fr ρ)[j]?≠some (some (.ow q)):=λj q e=>by
  unfold frR at e;rw[Zai] at e;cases e1:fr[j]? with
  |none=>rw[e1] at e;cases e
  |some o=>
   rw[e1] at e;cases o with
   |none=>cases e
   |some i=>
    simp only[Zbm,ZbP] at e;split at e
    ·rename_i v hv;unfold shOnly at e;split at e<;>cases e
    ·cases e
 refine⟨⟨R.rb,by unfold frσ frR;simp,λj p e=>?_,λj p e=>absurd e (no j p),λi j p q a e=>absurd e (no i p),_,RD.no nd⟩,λj q=>⟨no j q,nd j q⟩⟩
 unfold frR at e;rw[Zai] at e;unfold frσ;rw[Zai];cases e1:fr[j]? with
 |none=>rw[e1] at e;cases e
 |some o=>
  rw[e1] at e;cases o with
  |none=>cases e
  |some i=>
   simp only[Zbm,ZbP] at e ⊢;split at e
   ·rename_i v hv;unfold shOnly at e;split at e
    ·cases e;obtain⟨w,e2,e3⟩:=R.sh i _ hv;exact⟨w,by rw[e2],e3⟩
    ·cases e
   ·cases e
theorem RE.other(R:RE K C.toCf F H σ ρ){D:Addr}{o:HO}(hf:F D=none)(h0:C.H0 D=none)(no:NoO ρ):RE K C.toCf F (upd H D o) σ ρ where
 rb:=⟨λb u q=>by rw[aM (dg q hf)];exact R.rb.sub b u q,λb u q n=>by rw[aM (dg q h0)];exact R.rb.keep b u q n,R.rb.new,λb hb=>⟨by
  have:=(R.rb.ios b hb);by_cases hbD:b=D
  ·subst hbD;exact absurd h0 this.2
  ·rw[aM hbD];exact this.1,(R.rb.ios b hb).2⟩⟩
 len:=R.len
 sh:=R.sh
 ow:=λi p e=>absurd e (no i p).1
 dis:=λi j p q a e=>absurd e (no i p).1
 dd:=⟨_,RD.no λi p=>(no i p).2⟩
theorem RE.weak{ρ':Rho}(R:RE K C.toCf F H σ ρ')(hl:ρ.length=ρ'.length)(h:∀ (j:Nat) s,ρ[j]?=some (some s)->ρ'[j]?=some (some s)):RE K C.toCf F H σ ρ where
 rb:=R.rb
 len:=by rw[R.len,hl]
 sh:=λi p e=>R.sh i p (h i _ e)
 ow:=λi p e=>R.ow i p (h i _ e)
 dis:=λi j p q a e e'=>R.dis i j p q a (h i _ e) (h j _ e')
 dd:=let⟨P,d⟩:=R.dd;⟨P,d.own,d.dis,λi j q b z e=>d.ow i j q b z (h j _ e),λi p e=>d.dp i p (h i _ e)⟩
structure ItH(K:PySem.W.Frag)(J:It)(F H:Hp)(l:List PV):Prop where
 stop:∀ F' H',aL F F'->aL F' H'->aL H H'->J.stop l.length H'
 go:∀ i F' H',i<l.length->aL F F'->aL F' H'->aL H H'->J.go i H'
 yld:∀ i F' H' x H'',i<l.length->aL F F'->aL F' H'->aL H H'->J.yld i H' x H''->∃ F'' p,Up F' H' F'' H''/\l[i]?=some p/\Rep K F'' x p
def MIH(K:PySem.W.Frag)(C:Cg)(wi:TI)(f:Fn (List PV)):Prop:=
 ∀ F H σ ρ R' r,RE K C.toCf F H σ ρ->f ρ=some r->Pr C F (λl=>∀ J F' H',Up F H F' H'->ItH K J F' H' l->R' J H') r->wi σ H R'
theorem MI.h{wi:TI}{f:Fn (List PV)}(h:MI K C wi f):MIH K C wi f:=λF H σ ρ R' r R e P=>
 h F H σ ρ R' r R e (Pr.mono P (aL.refl _) λl q J F' H' u x=>q J F' H' u ⟨λa b c d _=>x.stop a b c d,λi a b hi c d _=>x.go i a b hi c d,λi a b y z hi c d _=>x.yld i a b y z hi c d⟩)
theorem p6{α β γ:Type}{x:Option (Res α)}{f:α->Option (Res β)}{g:β->Option (Res γ)}:bnd (bnd x f) g=bnd x λa=>bnd (f a) g:=by
 match x with
 |some (.ok a)=>rfl
 |some (.ex z)=>rfl
 |none=>rfl
theorem JV{wi:TI}{it:Fn (List PV)}{fr:List (Option Nat)}{gt:TG}{tg:PV->Rho->Option Rho}{T:List Nat}{tc:TT}{tst:Fn Bool}{el:Fn PV}(hi:MIH K C wi it)(hg:MG K C gt tg)(hT:Wr T tg)(ht:MT K C tc tst)(he:MJ K C (aF K) te el)
  (hfr:T.all (λj=>fr[j]?==some none)=true:=by rfl):MO K C (Ef wi fr gt tc te) (pq it fr tg tst el):=by
 intro F H σ ρ Q r R e P;rcases bx e with⟨z,e1,rfl⟩|⟨l,e1,hk⟩
 ·exact hi F H σ ρ _ _ R e1 P
 split at hk
 case isFalse=>cases hk
 rename_i hlen;refine hi F H σ ρ _ _ R e1 λJ F1 H1 u hJ D hD=>?_;have R1:=R.up u;obtain⟨Rb,no⟩:=R1.block fr;have hD0:C.H0 D=none:=R1.rb.qK hD;have hFD:F1 D=none:=u.fh.free hD;have hρ:∀ (j:Nat),j∈T->(frR fr ρ)[j]?=some none:=λj hj=>by
  have:=Zay.mp hfr j hj;unfold frR;rw[Zai,show fr[j]?=some none by simpa using this]
  rfl
 refine⟨λi m σ' H'=>∃ F' ys acc,m=l.length-i/\i<=l.length/\aL F1 F'/\(∀ b o,F' b=some o->F1 b=some o\/Frz H1 b o)/\aL H1 H'/\H' D=some (.lst ys)/\F' D=none/\bz K F' ys acc/\acc.length<=i /\
   RE K C.toCf F' H' σ' (frR fr ρ)/\bnd (fM tg tst el (frR fr ρ) (l.drop i)) (λr=>some (.ok (.lst (acc++r))))=some r,
  ⟨l.length,F1,[],[],by simp,Zbp _,aL.refl _,λ_ _ q=>.inl q,eZ hD,aP,hFD,.nil,Zak _,Rb.other hFD hD0 no,by rw[List.drop_zero];exact hk⟩,?_⟩
 rintro i m σ' H' ⟨F',ys,acc,rfl,hil,s1,fr1,sH,eD,nD,ra,hacc,R',e'⟩;by_cases hlt:i<l.length
 case neg=>
  have ei:i=l.length:=by omega
  subst ei;rw[List.drop_length] at e';have e':some (Res.ok (PV.lst (acc++[])))=some r:=e';rw[Zaz] at e';cases e';exact .inl ⟨hJ.stop F' H' s1 R'.rb.sub sH,P D F' H' (u.trans ⟨s1,sH,fr1,R'.rb.sub⟩) (u.hh.free hD) nD ⟨ys,eD,ra⟩⟩
 refine .inr ⟨hJ.go i F' H' hlt s1 R'.rb.sub sH,λσ2 H2=>∃ F2 ys acc,aL F1 F2/\(∀ b o,F2 b=some o->F1 b=some o\/Frz H1 b o)/\aL H1 H2/\H2 D=some (.lst ys)/\F2 D=none/\bz K F2 ys acc/\acc.length<=i+1 /\
   RE K C.toCf F2 H2 σ2 (frR fr ρ)/\bnd (fM tg tst el (frR fr ρ) (l.drop (i+1))) (λr=>some (.ok (.lst (acc++r))))=some r,
  λσ2 H2 ⟨F2,ys,acc,z⟩=>⟨l.length-(i+1),by omega,F2,ys,acc,rfl,hlt,z⟩,λx H'' y=>?_⟩
 obtain⟨F'',p,u2,ep,rx⟩:=hJ.yld i F' H' x H'' hlt s1 R'.rb.sub sH y;have ed:l.drop i=p::l.drop (i+1):=by
  rw[ZbM hlt];rw[Zav hlt] at ep;rw[Zaa ep]
 rw[ed,fM] at e';split at e'
 ·cases e'
 rename_i ρ1 h1;obtain⟨w1,w2,w3⟩:=hT p _ ρ1 h1;have no1:=w3 no;have weak:∀ (j:Nat) s,(frR fr ρ)[j]?=some (some s)->ρ1[j]?=some (some s):=λj s ej=>by
  rw[w2 j λz=>by rw[hρ j z] at ej;cases ej];exact ej
 refine hg F'' H'' σ' (frR fr ρ) x p ρ1 _ (R'.up u2) rx h1 λσ1 R1'=>?_;have stay:∀ {F3 H3:Hp},Up F' H' F3 H3->aL F1 F3/\(∀ b o,F3 b=some o->F1 b=some o\/Frz H1 b o)/\aL H1 H3/\H3 D=some (.lst ys)/\F3 D=none/\bz K F3 ys acc:=λ{F3 H3} u3=>by
  refine⟨s1.trans u3.ff,λb o q=>?_,sH.trans u3.hh,u3.hh _ _ eD,?_,ra.up u3.ff⟩
  ·rcases u3.fr b o q with z|z
   ·exact fr1 b o z
   ·exact .inr (z.imp (λz=>sH.free z) id)
  ·cases q:F3 D with
   |none=>rfl
   |some o=>
    rcases u3.fr D o q with z|z|⟨ys,z⟩
    ·rw[nD] at z;cases z
    ·rw[eD] at z;cases z
    ·subst z;have w:=u3.fh _ _ q;rw[u3.hh _ _ eD] at w;cases w
 have Pl:∀ {F3 H3:Hp},Up F' H' F3 H3->∀ {z:PV},r=.ex z->PX C F3 z:=λ{F3 H3} u3 {z} ez=>by
  subst ez;exact PX.up P (u.ff.trans (s1.trans u3.ff))
 rw[p6] at e';rcases bx e' with⟨z',e4,ez⟩|⟨b,e4,e5⟩
 ·exact ht F'' H'' σ1 ρ1 _ _ R1' e4 (Pl u2 ez)
 refine ht F'' H'' σ1 ρ1 _ _ R1' e4 λF3 H3 u3=>?_;have u23:=u2.trans u3;cases b with
 |false=>
  rw[Zaf (by decide)] at e5 ⊢
  obtain⟨a1,a2,a3,a4,a5,a6⟩:=stay u23;exact⟨F3,ys,acc,a1,a2,a3,a4,a5,a6,by omega,(R1'.up u3).weak w1.symm weak,e5⟩
 |true=>
  rw[Zae rfl] at e5 ⊢;rw[p6] at e5;rcases bx e5 with⟨z',e6,ez⟩|⟨q,e6,e7⟩
  ·exact he F3 H3 σ1 ρ1 _ _ (R1'.up u3) e6 (Pl u23 ez)
  refine he F3 H3 σ1 ρ1 _ _ (R1'.up u3) e6 λv F4 H4 u4 rv=>?_;have u24:=u23.trans u4;obtain⟨a1,a2,a3,a4,a5,a6⟩:=stay u24;refine⟨ys,a4,by rw[a6.1];omega,F4,ys++[v],acc++[q],a1,a2,GP hD a3,aP,a5,a6.snoc rv,by simp;omega,((R1'.up (u3.trans u4)).other a5 hD0 no1).weak w1.symm weak,?_⟩
  rw[p6] at e7;rw[<-e7];congr 1
  funext rr
  show some (Res.ok (PV.lst (acc++[q]++rr)))=some (Res.ok (PV.lst (acc++q::rr)))
  rw[List.append_assoc];rfl
theorem pA{wi:TI}{it:Fn (List PV)}{fr:List (Option Nat)}{gt:TG}{tg:PV->Rho->Option Rho}{T:List Nat}{tc:TT}{tst:Fn Bool}{el:Fn PV}(hi:MI K C wi it)(hg:MG K C gt tg)(hT:Wr T tg)(ht:MT K C tc tst)(he:MJ K C (aF K) te el)
  (hfr:T.all (λj=>fr[j]?==some none)=true:=by rfl):MO K C (Ef wi fr gt tc te) (pq it fr tg tst el):=JV hi.h hg hT ht he hfr
end
def tyN:PV->Option String
 |.non=>some "NoneType"
 |.bl _=>some "bool"
 |.int _=>some "int"
 |.str _=>some "str"
 |.tup _=>some "tuple"
 |.lst _=>some "list"
 |.dk _=>some "dict"
 |.dt _=>some "dict"
 |_=>none
def Rh(t T:String):Option Bool:=
 if t=T then some true else
 if T="int" then some (t=="bool") else
 if T="bool"\/T="str"\/T="tuple"\/T="list"\/T="dict" then some false else none
theorem MN{K:PySem.W.Frag}{p:PV}{t T:String}{b:Bool}(h:tyN p=some t)(e:Rh t T=some b):PySem.W.kitOne K (.type t) (.type T)=some b:=by
 have ht:t="NoneType"\/t="bool"\/t="int"\/t="str"\/t="tuple"\/t="list"\/t="dict":=by
  cases p<;>simp[tyN] at h<;>subst h<;>simp
 unfold Rh at e;split at e
 ·rename_i e1;subst e1;cases e;exact Jt
 ·split at e
  ·rename_i n1 e1;subst e1;cases e;rcases ht with rfl|rfl|rfl|rfl|rfl|rfl|rfl<;>first|exact absurd rfl n1|kernel_rfl
  ·split at e
   ·rename_i n1 n2 e1;cases e;rcases e1 with rfl|rfl|rfl|rfl|rfl<;>rcases ht with rfl|rfl|rfl|rfl|rfl|rfl|rfl<;>first|exact absurd rfl n1|kernel_rfl
   ·cases e
def isI(p:PV)(T:String):Option Bool:=match tyN p with
 |some t=>Rh t T
 |none=>none
section
variable{X:Cx}
def Tj(K:PySem.W.Frag):List V->Hp->VK->Prop:=λxs H Q=>∃ x p T b,xs=[x,.ty T]/\Rep K H x p/\isI p T=some b/\Q (.bl b) H
theorem lE:lq X (.builtin "isinstance") (Tj X.K):=by
 intro pins s σ H xs us Q I rv h;obtain⟨x,p,T,b,rfl,rp,e,q⟩:=h;obtain⟨u,v,rfl,ru,rw'⟩:=rv.two;cases rw';have fin:∀ tk,EP X pins σ Q (.bool b) { s with toks:=tk }:=λtk=>⟨.bl b,H,I.tok _,rfl,q⟩;unfold isI at e;split at e
 case h_2=>cases e
 rename_i t ht;have ek:=MN (K:=X.K) ht e;cases rp with
 |non=>cases ru;cases ht;exact ZaP PySem.W.kitx_none I.kIn True.intro ek (λz=>nomatch z) fin
 |bl=>cases ru;cases ht;exact ZaP PySem.W.kitx_bool I.kIn True.intro ek (λz=>nomatch z) fin
 |int=>obtain⟨t,rfl⟩:=ru;cases ht;exact ZaP PySem.W.kitx_int I.kIn True.intro ek (λz=>nomatch z) fin
 |str=>obtain⟨t,rfl⟩:=ru;cases ht;exact ZaP PySem.W.kitx_str I.kIn True.intro ek (λz=>nomatch z) fin
 |ty=>cases ht
 |tup h=>
  cases ru;cases ht;obtain⟨_,_,⟨o,h1,h2,_⟩,_⟩:=I.tuple (SqT.of h);exact ZaP PySem.W.kitx_tuple I.kIn ⟨o,h1,h2⟩ ek (λz=>nomatch z) fin
 |lst h=>
  cases ru;cases ht;obtain⟨_,_,⟨o,n,h1,h2,_⟩,_⟩:=I.list h;exact ZaP PySem.W.kitx_list I.kIn ⟨o,h1,h2⟩ ek (λz=>nomatch z) fin
 |dk h=>
  cases ru;cases ht;obtain⟨_,_,vs,_,o,es,ep,h1,h2,_⟩:=h.ok I.hok;exact ZaP PySem.W.kitx_dict I.kIn ⟨o,h1,h2.1⟩ ek (λz=>nomatch z) fin
 |dt h=>
  cases ru;cases ht;obtain⟨_,_,vs,_,o,es,ep,h1,h2,_⟩:=h.ok I.hok;exact ZaP PySem.W.kitx_dict I.kIn ⟨o,h1,h2.1⟩ ek (λz=>nomatch z) fin
 |exc=>cases ht
 |exc0=>cases ht
 |obj=>cases ht
end
section
variable{K:PySem.W.Frag}{C:Cg}{α β γ:Type}{A:Rel α}{B:Rel β}{D:Rel γ}{ta tb:TE}{f:Fn α}{g:Fn β}{rr:List V->Hp->VK->Prop}
def R1M(C:Cg)(A:Rel α)(D:Rel γ)(rr:List V->Hp->VK->Prop)(op:α->Option (Res γ)):Prop:=
 ∀ F H x a res Q,aL F H->A F H x a->op a=some res->Pr C F (λc=>∀ v F' H',Up F H F' H'->D F' H' v c->Q v H') res->rr [x] H Q
theorem jT{op:α->Option (Res γ)}(rule:R1M C A D rr op)(ha:MJ K C A ta f):MJ K C D (tCB rr (eY ta oJ)) (m1 op f):=by
 intro F H σ ρ Q r R e P;refine ha.run R e P λp v F1 H1 hk u a=>?_;exact rule F1 H1 v p r Q u.fh a hk (P.later u)
def R1O(K:PySem.W.Frag)(C:Cg)(A:Rel α)(rr:List V->Hp->VK->Prop)(op:α->Option (Res PV)):Prop:=
 ∀ F H x a res Q,aL F H->A F H x a->op a=some res->Pr C F (λp=>∀ a F' H',Up F H F' H'->H a=none->F' a=none->Own K F' H' a p->Q (.ref a) H') res->rr [x] H Q
theorem Cp{op:α->Option (Res PV)}(rule:R1O K C A rr op)(ha:MJ K C A ta f):MO K C (tCB rr (eY ta oJ)) (m1 op f):=by
 intro F H σ ρ Q r R e P;refine ha.run R e P λp v F1 H1 hk u a=>?_;exact rule F1 H1 v p r Q u.fh a hk (P.pW u)
def R2B(C:Cg)(A:Rel α)(B:Rel β)(D:Rel γ)(rr:List V->Hp->VK->Prop)(op:α->β->Option (Res γ)):Prop:=
 ∀ F H x y a b res Q,aL F H->A F H x a->B F H y b->op a b=some res->Pr C F (λc=>∀ v F' H',Up F H F' H'->D F' H' v c->Q v H') res->rr [x,y] H Q
theorem tV{op:α->β->Option (Res γ)}(up:UpM A)(rule:R2B C A B D rr op)(ha:MJ K C A ta f)(hb:MJ K C B tb g):MJ K C D (tCB rr (eY ta (eY tb oJ))) (m2 op f g):=by
 intro F H σ ρ Q r R e P;refine ha.run R e P λp v F1 H1 hk u a=>?_;refine hb.run (R.up u) hk (P.later u) λq w F2 H2 hk2 u2 b=>?_;exact rule F2 H2 v w p q r Q u2.fh (up _ _ _ _ _ _ u2 a) b hk2 (P.later (u.trans u2))
def pB:PV->Option (Res PV)
 |.str z=>if z.length<=sizeLine then some (.ok (.int z.length)) else none
 |.lst l=>some (.ok (.int l.length))
 |.tup l=>some (.ok (.int l.length))
 |_=>none
theorem zy:R1M C (aH K) (aF K) (λxs H Q=>∃ x n,xs=[x]/\Sq K x H n/\Q (.int n) H) pB:=by
 intro F H x a res Q s ha e P
 match a,e with
 |.str z,e=>
  cases Rep.bF ha;have e:(if z.length<=sizeLine then some (Res.ok (PV.int z.length)) else none)=some res:=e;split at e
  ·rename_i hz;cases e;exact⟨_,_,rfl,⟨hz,rfl⟩,P _ F H (Up.refl s) .int⟩
  ·cases e
 |.lst l,e=>
  cases e;obtain⟨b,xs,rfl,h1,r1⟩:=Rep.cH ha;rw[<-r1.1] at P;exact⟨_,_,rfl,.inl ⟨xs,h1,rfl⟩,P _ F H (Up.refl s) .int⟩
 |.tup l,e=>
  cases e;obtain⟨b,xs,rfl,h1,r1⟩:=Rep.cu ha;rw[<-r1.1] at P;exact⟨_,_,rfl,.inr ⟨xs,h1,rfl⟩,P _ F H (Up.refl s) .int⟩
def xr(p q:PV):Option (Res PV):=match q with
 |.ty T=>match isI p T with
  |some b=>some (.ok (.bl b))
  |none=>none
 |_=>none
theorem JW:R2B C (aH K) (aF K) (aF K) (Tj K) xr:=by
 intro F H x y a b res Q s ha hb e P
 match b,e with
 |.ty T,e=>
  cases Rep.QR hb;have e:(match isI a T with
   |some b=>some (Res.ok (PV.bl b))
   |none=>none)=some res:=e
  split at e
  ·rename_i k hk;cases e;exact⟨x,a,T,k,rfl,ha,hk,P _ F H (Up.refl s) .bl⟩
  ·cases e
def iC:List PV->Option (List Bool)
 |[]=>some []
 |.bl b::r=>(iC r).map (b::·)
 |_=>none
theorem tW{F:Hp}:∀ {l:List PV}{bs:List Bool}{xs:List V},iC l=some bs->bz K F xs l->xs=bs.map V.bl
 |[],bs,xs,e,r=>by cases e;exact r.oW
 |.bl b::l,bs,xs,e,r=>by
  rw[iC] at e;cases h:iC l with
  |none=>rw[h] at e;cases e
  |some cs=>
   rw[h] at e;cases e;obtain⟨v,ys,rfl,r1,r2⟩:=r.gV;rw[Rep.cX r1,tW h r2];rfl
def tX(l:List PV):Option (Res PV):=match iC l with
 |some bs=>some (.ok (.bl (bs.all id)))
 |none=>none
theorem Pg:R1M C (aV K) (aF K) (λxs H Q=>∃ (p:Addr) (bs:List Bool),xs=[.ref p]/\SqL K H p (bs.map V.bl)/\Q (.bl (bs.all id)) H) tX:=by
 intro F H x a res Q s ha e P;unfold tX at e;split at e
 ·rename_i bs hb;cases e;obtain⟨b,xs,rfl,h1,r1⟩:=ha;rw[tW hb r1] at h1;exact⟨b,bs,rfl,h1,P _ F H (Up.refl s) .bl⟩
 ·cases e
def Es:PV->Option (Res PV)
 |.int i=>some (.ok (.int i))
 |.bl b=>some (.ok (.int (if b then 1 else 0)))
 |_=>none
theorem Ri:R1M C (aF K) (aF K) (λxs H Q=>(∃ i,xs=[.int i]/\Q (.int i) H)\/∃ k,xs=[.bl k]/\Q (.int (if k then 1 else 0)) H) Es:=by
 intro F H x a res Q s ha e P
 match a,e with
 |.int i,e=>
  cases Rep.aX ha;cases e;exact .inl ⟨i,rfl,P _ F H (Up.refl s) .int⟩
 |.bl b,e=>
  cases Rep.cX ha;cases e;exact .inr ⟨b,rfl,P _ F H (Up.refl s) .int⟩
def xu(l:List PV):Option (Res PV):=some (.ok (.lst l))
theorem JX:R1O K C (aV K) (λxs H Q=>∃ p ys,xs=[.ref p]/\(SqL K H p ys\/SqT K H p ys)/\∀ l,H l=none->Q (.ref l) (upd H l (.lst ys))) xu:=by
 intro F H x a res Q s ha e P;cases e;obtain⟨b,xs,rfl,h1,r1⟩:=ha;exact⟨b,xs,rfl,.inl h1,λl hl=>P l F _ (Up.u9 s hl) hl (s.free hl) ⟨_,aP,r1⟩⟩
def xx:PV->Option (Res PV)
 |.tup l=>some (.ok (.lst l))
 |.lst l=>some (.ok (.lst l))
 |_=>none
theorem M3:R1O K C (aF K) (λxs H Q=>∃ p ys,xs=[.ref p]/\(SqL K H p ys\/SqT K H p ys)/\∀ l,H l=none->Q (.ref l) (upd H l (.lst ys))) xx:=by
 intro F H x a res Q s ha e P
 match a,e with
 |.tup l,e=>
  cases e;obtain⟨b,xs,rfl,h1,r1⟩:=Rep.cu ha;exact⟨b,xs,rfl,.inr (s.tup h1),λl hl=>P l F _ (Up.u9 s hl) hl (s.free hl) ⟨_,aP,r1⟩⟩
 |.lst l,e=>
  cases e;obtain⟨b,xs,rfl,h1,r1⟩:=Rep.cH ha;exact⟨b,xs,rfl,.inl (s.seq h1),λl hl=>P l F _ (Up.u9 s hl) hl (s.free hl) ⟨_,aP,r1⟩⟩
def JZ(l:List PV):Option (Res PV):=some (.ok (.tup l))
theorem Tn:R1M C (aV K) (aF K) (λxs H Q=>∃ p ys,xs=[.ref p]/\((SqL K H p ys/\∀ l,H l=none->Q (.ref l) (upd H l (.tup ys)))\/(SqT K H p ys/\Q (.ref p) H))) JZ:=by
 intro F H x a res Q s ha e P;cases e;obtain⟨b,xs,rfl,h1,r1⟩:=ha;refine⟨b,xs,rfl,.inl ⟨h1,λl hl=>?_⟩⟩;have un:=Up.new (o:=.tup xs) s hl;exact P _ _ _ un (.tup aP r1.1 (r1.up un.ff).2)
def lF(f:Fn PV):Fn (List PV):=λρ=>bnd (f ρ) qL
def jU(i:Nat):Fn (List PV):=λρ=>bnd (mVL i ρ) qL
def Tp(i:Nat)(f:Sn):Sn:=λρ=>f (Cj i ρ)
end
noncomputable abbrev XR0:Hp->Value->Option Addr->PV->Prop:=λ_ _ _ _=>False
noncomputable abbrev C0(io:Addr->Prop)(H0 F0:Hp):Cg:=⟨⟨io,True,H0,F0,E0⟩,XR0⟩
def startR(ps:List PV)(k:Nat):Rho:=ps.map (λp=>some (.sh p))++List.replicate k none
def fin:Option Out->Option (Res PV)
 |some (.nx _)=>some (.ok .non)
 |some (.rt p)=>some (.ok p)
 |some (.ex z)=>some (.ex z)
 |_=>none
def zz:Option Out->Option (Res PV)
 |some (.ro p)=>some (.ok p)
 |some (.ex z)=>some (.ex z)
 |_=>none
section
variable{K:PySem.W.Frag}{XR:Hp->Value->Option Addr->PV->Prop}{N:List Str}{vs:List V}{H:Hp}{Q:VK}{E:XK}{t:TS}{b:Sn}{m:List PV->Option (Res PV)}
theorem lG{E:XK}{F:Hp}{ps:List PV}{n:Nat}(s:aL F H)(r:bz K F vs ps)(hN:N.length=vs.length+n):RE K ⟨λ_=>False,True,H,F,E⟩ F H (start N vs) (startR ps n) where
 rb:=⟨s,λ_ _ h _=>h,λ_ _ h=>.inl h,λ_ h=>h.elim⟩
 len:=by unfold start startR;rw[Zaw,Zaw,Zam,Zam,Za1,Za1,r.1,hN];have:=r.1;lia
 sh:=λi p e=>by
  unfold startR at e;unfold start;by_cases hi:i<ps.length
  ·rw[Zan (by simpa using hi),Zai] at e
   rw[Zan (by rw[Zam,r.1];exact hi),Zai]
   cases h:ps[i]? with
   |none=>rw[h] at e;cases e
   |some q=>
    rw[h] at e;cases e;obtain⟨x,hx,rx⟩:=r.get h;exact⟨x,by rw[hx];rfl,rx⟩
  ·rw[Zap (by simpa using hi),ZaK] at e
   split at e<;>cases e
 ow:=λi p e=>by
  exfalso;unfold startR at e;by_cases hi:i<ps.length
  ·rw[Zan (by simpa using hi),Zai] at e
   cases h:ps[i]? with
   |none=>rw[h] at e;cases e
   |some q=>rw[h] at e;cases e
  ·rw[Zap (by simpa using hi),ZaK] at e
   split at e<;>cases e
 dd:=⟨_,RD.no λi p e=>by
  unfold startR at e;by_cases hi:i<ps.length
  ·rw[Zan (by simpa using hi),Zai] at e
   cases h:ps[i]? with
   |none=>rw[h] at e;cases e
   |some q=>rw[h] at e;cases e
  ·rw[Zap (by simpa using hi),ZaK] at e
   split at e<;>cases e⟩
 dis:=λi j p q a e=>by
  exfalso;unfold startR at e;by_cases hi:i<ps.length
  ·rw[Zan (by simpa using hi),Zai] at e
   cases h:ps[i]? with
   |none=>rw[h] at e;cases e
   |some q=>rw[h] at e;cases e
  ·rw[Zap (by simpa using hi),ZaK] at e
   split at e<;>cases e
theorem cJ{k n:Nat}(hk:N.length=k+n)(hm:∀ ps r,m ps=some r->ps.length=k/\fin (b (startR ps n))=some r)(h:spM K XR0 m vs H Q E)(hS:∀ (io:Addr->Prop) (H0 F0:Hp),(∀ a,¬io a)->MS K (C0 io H0 F0) t b) :
  t { nx:=λ_ H'=>Q .non H',rt:=Q } (start N vs) H:=by
 obtain⟨ps,F,r,s,rp,e,P⟩:=h;obtain⟨hl,e⟩:=hm ps r e;have R:=lG (E:=E0) (N:=N) (n:=n) s rp (by rw[rp.1,hl];exact hk)
 have up:∀ {F' H':Hp},aL F F'->RB ⟨λ_=>False,True,H,F,E0⟩ F' H'->Up F H F' H':=λs' rb=>⟨s',λc o q=>rb.keep c o q id,rb.new,rb.sub⟩;have M:=hS (λ_=>False) H F (λ_ h=>h);cases ho:b (startR ps n) with
 |none=>rw[ho] at e;cases e
 |some o=>
  rw[ho] at e;refine M F H _ _ _ o R ho ?_;cases o with
  |nx ρ=>cases e;exact λF' H' σ s' R'=>P .non F' H' (up s' R'.rb) .non
  |rt p=>cases e;exact λv F' H' s' rb rv=>P v F' H' (up s' rb) rv
  |ex z=>exact λ_ _ _ _ _ _ x=>x.elim
  |ro p=>cases e
  |rd p=>cases e
  |bk ρ=>cases e
  |ct ρ=>cases e
theorem Et{k n:Nat}(hk:N.length=k+n)(hm:∀ ps r,m ps=some r->ps.length=k/\zz (b (startR ps n))=some r)(h:spO K XR0 m vs H Q E)(hS:∀ (io:Addr->Prop) (H0 F0:Hp),(∀ a,¬io a)->MS K (C0 io H0 F0) t b) :
  t { nx:=λ_ H'=>Q .non H',rt:=Q } (start N vs) H:=by
 obtain⟨ps,F,r,s,rp,e,P⟩:=h;obtain⟨hl,e⟩:=hm ps r e;have R:=lG (E:=E0) (N:=N) (n:=n) s rp (by rw[rp.1,hl];exact hk)
 have up:∀ {F' H':Hp},aL F F'->RB ⟨λ_=>False,True,H,F,E0⟩ F' H'->Up F H F' H':=λs' rb=>⟨s',λc o q=>rb.keep c o q id,rb.new,rb.sub⟩;have M:=hS (λ_=>False) H F (λ_ h=>h);cases ho:b (startR ps n) with
 |none=>rw[ho] at e;cases e
 |some o=>
  rw[ho] at e;refine M F H _ _ _ o R ho ?_;cases o with
  |ro p=>cases e;exact λa F' H' s' rb w n1 n2=>P a F' H' (up s' rb) n2 n1 w
  |ex z=>exact λ_ _ _ _ _ _ x=>x.elim
  |nx ρ=>cases e
  |rt p=>cases e
  |rd p=>cases e
  |bk ρ=>cases e
  |ct ρ=>cases e
theorem b7(h:spM K XR m vs H Q E){k:Nat}(hm:∀ ps r,m ps=some r->ps.length=k):vs.length=k:=by
 obtain⟨ps,F,r,s,rp,e,P⟩:=h;rw[rp.1];exact hm ps r e
theorem Eu(h:spO K XR m vs H Q E){k:Nat}(hm:∀ ps r,m ps=some r->ps.length=k):vs.length=k:=by
 obtain⟨ps,F,r,s,rp,e,P⟩:=h;rw[rp.1];exact hm ps r e
end
section
variable{X:Cx}{k:Nat}{N:List Str}{scope:Scope}{cl:List (Str×Addr)}{C:Addr}{s2:Shared}{H2:Hp}{fp:List Addr}
theorem Ew:IxR (X.comp N scope cl C s2 H2 fp) (rIx X.K):=aU
theorem M4(hr:cB k X.A):OpR (X.comp N scope cl C s2 H2 fp) (compareOp .Eq) (Q4 X.K):=gW hr
theorem M5(hr:cB k X.A):OpR (X.comp N scope cl C s2 H2 fp) (compareOp .In) (Q6 X.K):=Q7 hr
end
structure Tq(a:Addr)(F H F' H':Hp):Prop where
 ff:aL F F'
 hb:SameBut a H H'
 fr:∀ b o,F' b=some o->F b=some o\/Frz H b o
 fh:aL F' H'
def zA(K:PySem.W.Frag)(F:Hp)(a:Addr)(p:PV)(j:Nat)(xs:List V)(l:List PV):Prop:=
 xs.length=l.length/\xs[j]?=some (.ref a)/\l[j]?=some p/\∀ (k:Nat) x q,k≠j->xs[k]?=some x->l[k]?=some q->Rep K F x q
def cA(j:Nat)(ps:List PV)(n:Nat):Rho:=(ps.mapIdx λk p=>some (if k=j then Sl.ow p else Sl.sh p))++List.replicate n none
def Tr(j:Nat):Option Out->Option (Res PV)
 |some (.nx ρ)=>match ownAt j ρ with
  |some p=>some (.ok p)
  |none=>none
 |_=>none
section
variable{K:PySem.W.Frag}{C:Cg}{N:List Str}{vs:List V}{H F:Hp}{Q:VK}{E:XK}{t:TS}{b:Sn}{j:Nat}{ps:List PV}{a:Addr}{p:PV}{n:Nat}
theorem gh{i:Nat}{s:Sl}(e:(cA j ps n)[i]?=some (some s)):∃ q,ps[i]?=some q/\s=if i=j then Sl.ow q else Sl.sh q:=by
 unfold cA at e;by_cases hi:i<ps.length
 ·rw[Zan (by simpa using hi),List.getElem?_mapIdx] at e
  cases h:ps[i]? with
  |none=>rw[h] at e;cases e
  |some q=>rw[h] at e;exact⟨q,rfl,(Zaa (Zaa e)).symm⟩
 ·rw[Zap (by simpa using hi),ZaK] at e
  split at e<;>cases e
theorem lH{i:Nat}{x:V}(h:vs[i]?=some x):(start N vs)[i]?=some (some x):=by
 unfold start;rw[Zan (by rw[Zam];exact cg h),Zai,h]
 rfl
theorem tY(s:aL F H)(r:zA K F a p j vs ps)(w:Own K F H a p)(hn:F a=none)(hN:N.length=vs.length+n):RE K ⟨λc=>c=a,False,H,F,E⟩ F H (start N vs) (cA j ps n) where
 rb:=⟨s,λ_ _ h _=>h,λ_ _ h=>.inl h,λb hb=>by
  obtain⟨o,eo⟩:=w.ne;subst hb;have h1:H b≠none:=by rw[eo];simp
  exact⟨h1,h1⟩⟩
 len:=by unfold start cA;rw[Zaw,Zaw,Zam,List.length_mapIdx,Za1,Za1,r.1,hN];have:=r.1;omega
 sh:=λi q e=>by
  obtain⟨q',e1,e2⟩:=gh e;by_cases hij:i=j
  ·rw[Zae hij] at e2;cases e2
  ·rw[Zaf hij] at e2;cases e2;have hi:i<vs.length:=by rw[r.1];exact cg e1
   exact⟨vs[i],lH (by simp[hi]),r.2.2.2 i _ _ hij (by simp[hi]) e1⟩
 ow:=λi q e=>by
  obtain⟨q',e1,e2⟩:=gh e;by_cases hij:i=j
  ·rw[Zae hij] at e2;cases e2;subst hij;rw[r.2.2.1] at e1;cases e1;exact⟨a,lH r.2.1,w,hn,.inl rfl⟩
  ·rw[Zaf hij] at e2;cases e2
 dis:=λi k q q' c e e' _ _=>by
  have key:∀ {i:Nat}{q:PV},(cA j ps n)[i]?=some (some (.ow q))->i=j:=λ{i q} e=>by
   obtain⟨q',e1,e2⟩:=gh e;by_cases hij:i=j
   ·exact hij
   ·rw[Zaf hij] at e2;cases e2
  rw[key e,key e']
 dd:=⟨_,RD.no λi q e=>by
  obtain⟨q',e1,e2⟩:=gh e;by_cases hij:i=j
  ·rw[Zae hij] at e2;cases e2
  ·rw[Zaf hij] at e2;cases e2⟩
noncomputable abbrev C1(a:Addr)(H0 F0:Hp):Cg:=⟨⟨λc=>c=a,False,H0,F0,E0⟩,XR0⟩
def MAH(K:PySem.W.Frag)(C:Cg)(i j:Nat)(t:TA)(f:Fn (List PV)):Prop:=
 ∀ F H σ ρ Q r a p,RE K C.toCf F H σ ρ->ρ[i]?=some (some (.ow p))->σ[i]?=some (some (.ref a))->f ρ=some r->Pr C F (λl=>∀ xs F' H',Up F H F' H'->zA K F' a p j xs l->Q xs H') r->t σ H Q
def eG(i:Nat)(g:Fn (List PV)):Fn (List PV):=λρ=>match ownAt i ρ with
 |some p=>bnd (g ρ) λl=>some (.ok (p::l))
 |none=>none
theorem dF{i:Nat}{t:TA}{g:Fn (List PV)}(h:MA K C t g):MAH K C i 0 (eY (jx i) t) (eG i g):=by
 intro F H σ ρ Q r a p R e ea hf P;refine⟨_,ea,?_⟩;unfold eG at hf;have eo:ownAt i ρ=some p:=by unfold ownAt;rw[e]
 rw[eo] at hf;refine h.run R hf P λl xs F1 H1 hk u b=>?_;cases hk;refine P _ F1 H1 u ⟨by simp[b.1],rfl,rfl,λk x q hk ex eq=>?_⟩
 cases k with
 |zero=>exact absurd rfl hk
 |succ k=>exact b.2 k x q (by simpa using ex) (by simpa using eq)
theorem RE.Uk{F' H':Hp}{σ:St}{ρ:Rho}{p':PV}{i:Nat}(R:RE K C.toCf F H σ ρ)(e:ρ[i]?=some (some (.ow p)))(ea:σ[i]?=some (some (.ref a)))(u:Tq a F H F' H')(w:Own K F' H' a p')(hn:F' a=none):RE K C.toCf F' H' σ (ρ.set i (some (.ow p'))):=by
 obtain⟨a',e1,e2,e3,e4⟩:=R.ow i p e;rw[ea] at e1;cases e1;obtain⟨oa,eoa⟩:=e2.ne;refine⟨⟨u.fh,λb o q n=>?_,λb o q=>?_,λb hb=>⟨?_,(R.rb.ios b hb).2⟩⟩,by simp[R.len],λj q f=>?_,λj q f=>?_,λj k q q' b f f' g g'=>?_,?_⟩
 ·have:b≠a:=λz=>by
   subst z;rcases e4 with z|z
   ·exact n z
   ·rw[z.2] at q;cases q
  exact u.hb b o (R.rb.keep b o q n) this
 ·rcases u.fr b o q with z|z
  ·exact R.rb.new b o z
  ·exact .inr (z.imp (λz=>R.rb.qK z) id)
 ·by_cases hba:b=a
  ·subst hba;obtain⟨o,eo⟩:=w.ne;rw[eo];simp
  ·cases hb':H b with
   |none=>exact absurd hb' (R.rb.ios b hb).1
   |some o=>rw[u.hb b o hb' hba];simp
 ·rcases get_set f with⟨f1,f2⟩|⟨f1,f2⟩
  ·cases f2
  ·obtain⟨v,g1,g2⟩:=R.sh j q f2;exact⟨v,g1,g2.up u.ff⟩
 ·rcases get_set f with⟨f1,f2⟩|⟨f1,f2⟩
  ·subst f1;cases f2;exact⟨a,ea,w,hn,e4⟩
  ·obtain⟨b,g1,g2,g3,g4⟩:=R.ow j q f2;have hb:b≠a:=λz=>by subst z;exact f1 (R.dis i j p q b e f2 ea g1)
   refine⟨b,g1,g2.up u.ff λo qq=>u.hb b o qq hb,?_,g4⟩;cases hF:F' b with
   |none=>rfl
   |some o=>
    obtain⟨ob,eob⟩:=g2.ne;rcases u.fr b o hF with z|z|⟨ys,z⟩
    ·rw[g3] at z;cases z
    ·rw[eob] at z;cases z
    ·subst z;have w:=u.fh _ _ hF;rw[u.hb b _ eob hb] at w;cases w;exact(g2.qJ eob).elim
 ·have key:∀ (j:Nat) q,(ρ.set i (some (Sl.ow p')))[j]?=some (some (.ow q))->∃ q0,ρ[j]?=some (some (.ow q0)):=λj q f=>by
   rcases get_set f with⟨f1,f2⟩|⟨f1,f2⟩
   ·subst f1;exact⟨p,e⟩
   ·exact⟨q,f2⟩
  obtain⟨q0,k0⟩:=key j q f;obtain⟨q1,k1⟩:=key k q' f';exact R.dis j k q0 q1 b k0 k1 g g'
 ·obtain⟨P,d⟩:=R.dd;have na:∀ j b,P j b->b≠a:=λj b z e'=>by subst e';exact d.ow j i p b z e ea
  refine⟨P,λj b z=>?_,d.dis,λj k q b z f g=>?_,λj q f=>?_⟩
  ·obtain⟨a1,⟨o',a2,a3⟩,a4⟩:=d.own j b z;have hb':=u.hb b _ a2 (na j b z);refine⟨?_,⟨o',hb',a3⟩,a4⟩;cases hF:F' b with
   |none=>rfl
   |some o=>
    rcases u.fr b o hF with w|w|⟨ys,w⟩
    ·rw[a1] at w;cases w
    ·rw[a2] at w;cases w
    ·subst w;have w:=u.fh _ _ hF;rw[hb'] at w;cases w;exact absurd rfl (a3 ys)
  ·rcases get_set f with⟨f1,f2⟩|⟨f1,f2⟩
   ·subst f1;exact d.ow j i p b z e g
   ·exact d.ow j k q b z f2 g
  ·rcases get_set f with⟨f1,f2⟩|⟨f1,f2⟩
   ·cases f2
   ·obtain⟨w,e3,e5⟩:=d.dp j q f2;exact⟨w,e3,e5.up u.ff (λb o z q=>u.hb b o q (na j b z)) λb ys q=>u.hb b _ q λz=>by subst z;exact e2.qJ q⟩
end
section
def zB:Fn PV:=λ_=>some (.ok (.dk []))
end
section
variable{κ:Type}[DecidableEq κ]
def fK:List (κ×PV)->κ->Option PV
 |[],_=>none
 |(a,p)::l,k=>if a=k then some p else fK l k
def dG:List (κ×PV)->κ->PV->List (κ×PV)
 |[],k,p=>[(k,p)]
 |(a,q)::l,k,p=>if a=k then(a,p)::(if(l.any λe=>decide (e.1=k))=true then dG l k p else l) else(a,q)::dG l k p
inductive eN(K:PySem.W.Frag)(F:Hp):List (κ×V)->List (κ×PV)->Prop
 |nil:eN K F [] []
 |cons {k:κ}{v:V}{p:PV}{xs:List (κ×V)}{l:List (κ×PV)} (h:Rep K F v p) (t:eN K F xs l):eN K F ((k,v)::xs) ((k,p)::l)
variable{K:PySem.W.Frag}{F:Hp}{xs:List (κ×V)}{l:List (κ×PV)}{k:κ}
theorem eN.of:∀ {xs:List (κ×V)}{l:List (κ×PV)},xs.map (·.1)=l.map (·.1)->(∀ (j:Nat) x p,xs[j]?=some x->l[j]?=some p->Rep K F x.2 p.2)->eN K F xs l
 |[],[],_,_=>.nil
 |[],_::_,h,_=>by simp at h
 |_::_,[],h,_=>by simp at h
 |(a,v)::xs,(b,p)::l,h,hr=>by
  simp only[ZaA,ZbF] at h;obtain⟨h1,h2⟩:=h;have h1:a=b:=h1;subst h1;exact .cons (hr 0 _ _ rfl rfl) (eN.of h2 λj x p e1 e2=>hr (j+1) x p (by simpa using e1) (by simpa using e2))
theorem eN.keys(h:eN K F xs l):xs.map (·.1)=l.map (·.1):=by
 induction h with
 |nil=>rfl
 |cons h t ih=>simp[ih]
theorem eN.len(h:eN K F xs l):xs.length=l.length:=by
 have:=Zbi List.length h.keys;simpa using this
theorem eN.at(h:eN K F xs l):∀ (j:Nat) x p,xs[j]?=some x->l[j]?=some p->Rep K F x.2 p.2:=by
 induction h with
 |nil=>intro j x p e;simp at e
 |cons h t ih=>
  intro j x p e1 e2;cases j with
  |zero=>simp at e1 e2;subst e1 e2;exact h
  |succ j=>exact ih j x p (by simpa using e1) (by simpa using e2)
theorem eN.none(h:eN K F xs l)(e:fK l k=none):rA xs k=none:=by
 induction h with
 |nil=>rfl
 |@cons a v p xs l h t ih=>
  unfold fK at e;split at e
  ·cases e
  ·rename_i hk;rw[lw hk];exact ih e
theorem eN.some{p:PV}(h:eN K F xs l)(e:fK l k=some p):∃ v,rA xs k=some v/\Rep K F v p:=by
 induction h with
 |nil=>cases e
 |@cons a v q xs l h t ih=>
  unfold fK at e;split at e
  ·rename_i hk;cases e;exact⟨v,oV hk,h⟩
  ·rename_i hk;obtain⟨w,h1,h2⟩:=ih e;exact⟨w,by rw[lw hk];exact h1,h2⟩
theorem eN.any(h:eN K F xs l):(xs.any λe=>decide (e.1=k))=l.any λe=>decide (e.1=k):=by
 induction h with
 |nil=>rfl
 |cons h t ih=>simp only[Zbe,ih]
theorem eN.repl{v:V}{p:PV}(h:eN K F xs l)(r:Rep K F v p):(l.any λe=>decide (e.1=k))=true->eN K F (xs.map λkv=>if kv.1=k then(kv.1,v) else kv) (dG l k p):=by
 induction h with
 |nil=>intro z;cases z
 |@cons a w q xs l h t ih=>
  intro z;unfold dG;rw[ZaA];by_cases hk:a=k
  ·rw[Zae hk,Zae hk];refine .cons r ?_;by_cases hl:(l.any λe=>decide (e.1=k))=true
   ·rw[Zae hl];exact ih hl
   ·rw[Zaf hl];have hx:∀ e∈xs,¬e.1=k:=λe he z=>hl (by rw[<-t.any];exact ZbU.mpr ⟨e,he,by simpa using z⟩)
    rw[show xs.map (λkv=>if kv.1=k then(kv.1,v) else kv)=xs from by
     conv=>rhs;rw[<-List.map_id xs]
     exact ZbC λe he=>by rw[Zaf (hx e he)];rfl]
    exact t
  ·rw[Zaf hk,Zaf hk];refine .cons h (ih ?_);rw[Zbe] at z;simpa[hk] using z
theorem eN.snoc{v:V}{p:PV}(h:eN K F xs l)(r:Rep K F v p):(l.any λe=>decide (e.1=k))=false->eN K F (xs++[(k,v)]) (dG l k p):=by
 induction h with
 |nil=>intro _;exact .cons r .nil
 |@cons a w q xs l h t ih=>
  intro z;rw[Zbe,Bool.or_eq_false_iff] at z;have hk:¬a=k:=by simpa using z.1
  unfold dG;rw[Zaf hk];exact .cons h (ih z.2)
theorem eN.put{v:V}{p:PV}(h:eN K F xs l)(r:Rep K F v p):eN K F (putK xs k v) (dG l k p):=by
 unfold putK;by_cases z:(xs.any λe=>decide (e.1=k))=true
 ·rw[Zae z];exact h.repl r (by rw[<-h.any];exact z)
 ·rw[Zaf z];exact h.snoc r (by rw[<-h.any];exact Zbh _▸z)
end
def qO:PV->Option Key
 |.int i=>some (.inl i)
 |.str x=>some (.inr x)
 |_=>none
def jV:List PV->Option (List Key)
 |[]=>some []
 |p::l=>match qO p,jV l with
  |some k,some ks=>some (k::ks)
  |_,_=>none
theorem tZ{K:PySem.W.Frag}{F:Hp}{p:PV}{k:Key}{v:V}(h:qO p=some k)(r:Rep K F v p):v=kV k:=by
 cases p with
 |int i=>cases h;cases Rep.aX r;rfl
 |str x=>cases h;cases Rep.bF r;rfl
 |_=>cases h
theorem p7{K:PySem.W.Frag}{F:Hp}:∀ {l:List PV}{ks:List Key}{xs:List V},jV l=some ks->bz K F xs l->xs=ks.map kV
 |[],ks,xs,h,r=>by cases h;exact r.oW
 |p::l,ks,xs,h,r=>by
  unfold jV at h;split at h
  ·rename_i k ks' h1 h2;cases h;obtain⟨v,ys,rfl,r1,r2⟩:=r.gV;rw[tZ h1 r1,p7 h2 r2];rfl
  ·cases h
def PV.isD:PV->Bool
 |.dk _=>true
 |.dt _=>true
 |_=>false
def DLk(K:PySem.W.Frag)(F H:Hp)(a:Addr):PV->Prop
 |.dk l=>∃ xs,Rd H a (.dK xs)/\xs.map (·.1)=l.map (·.1)/\∀ (j:Nat) x p,xs[j]?=some x->l[j]?=some p->Rep K F x.2 p.2
 |.dt l=>∃ xs,Rd H a (.dT xs)/\xs.map (·.1)=l.map (·.1)/\∀ (j:Nat) x p,xs[j]?=some x->l[j]?=some p->Rep K F x.2 p.2
 |_=>False
theorem DLk.up{K:PySem.W.Frag}{F H F' H':Hp}{a:Addr}{p:PV}(o:DLk K F H a p)(sf:aL F F')(sh:aL H H'):DLk K F' H' a p:=by
 cases p with
 |dk l=>obtain⟨xs,e,r,q⟩:=o;exact⟨xs,e.same sh,r,λj x p a b=>(q j x p a b).up sf⟩
 |dt l=>obtain⟨xs,e,r,q⟩:=o;exact⟨xs,e.same sh,r,λj x p a b=>(q j x p a b).up sf⟩
 |_=>exact o.elim
theorem Own.look{K:PySem.W.Frag}{F H:Hp}{a:Addr}{p:PV}(o:Own K F H a p)(d:p.isD=true):DLk K F H a p:=by
 cases p with
 |dk l=>obtain⟨xs,e,r⟩:=o;exact⟨xs,.inl e,r⟩
 |dt l=>obtain⟨xs,e,r⟩:=o;exact⟨xs,.inl e,r⟩
 |_=>cases d
def aD(K:PySem.W.Frag):Rel PV:=λF H v p=>p.isD=true/\∃ a,v=.ref a/\DLk K F H a p
theorem aD.up{K:PySem.W.Frag}:UpM (aD K):=λ_ _ _ _ _ _ u ⟨h1,b,e,o⟩=>⟨h1,b,e,o.up u.ff u.hh⟩
def asD(p:PV):Option (Res PV):=if p.isD=true then some (.ok p) else none
theorem Rep.own{K:PySem.W.Frag}{F H:Hp}{v:V}{p:PV}(r:Rep K F v p)(s:aL F H)(d:p.isD=true):∃ a,v=.ref a/\DLk K F H a p:=by
 cases r with
 |dk h hl hr=>exact⟨_,rfl,_,h.same s,hl,hr⟩
 |dt h hl hr=>exact⟨_,rfl,_,h.same s,hl,hr⟩
 |_=>cases d
section
variable{K:PySem.W.Frag}{C:Cg}{ta tb te:TE}{f g h:Fn PV}
def t6(f:Fn PV):Fn PV:=λρ=>bnd (f ρ) asD
def iD(i:Nat):Fn PV:=λρ=>bnd (mVL i ρ) asD
theorem zE(h:MJ K C (aF K) ta f):MJ K C (aD K) ta (t6 f):=by
 intro F H σ ρ Q r R e P;refine h.run R e P λp v F1 H1 hk u a=>?_;unfold asD at hk;split at hk
 ·rename_i hd;cases hk;exact P v F1 H1 u ⟨hd,Rep.own a u.fh hd⟩
 ·cases hk
theorem mW(i:Nat):MJ K C (aD K) (jx i) (iD i):=by
 intro F H σ ρ Q r R e P;unfold iD at e;rcases bx e with⟨z,e1,rfl⟩|⟨p,e1,hk⟩
 ·unfold mVL at e1;split at e1<;>cases e1
 ·unfold asD at hk;split at hk
  case isFalse=>cases hk
  rename_i hd;cases hk;unfold mVL at e1;split at e1
  ·rename_i q hq;cases e1;obtain⟨v,e2,e3⟩:=R.sh i _ hq;exact⟨v,e2,P v F H (Up.refl R.rb.sub) ⟨hd,Rep.own e3 R.rb.sub hd⟩⟩
  ·rename_i q hq;cases e1;obtain⟨a,e2,e3,_⟩:=R.ow i _ hq;exact⟨_,e2,P _ F H (Up.refl R.rb.sub) ⟨hd,a,rfl,e3.look hd⟩⟩
  ·cases e1
def kI:PV->PV->Option (Option PV)
 |.dk l,k=>(qO k).map (fK l)
 |.dt l,.tup ks=>(jV ks).map (fK l)
 |_,_=>none
theorem t7{F H:Hp}{a:Addr}{d k:PV}{y:V}{r:Option PV}(s:aL F H)(o:DLk K F H a d)(ry:Rep K F y k)(e:kI d k=some r) :
  ∃ o,sZ H a y o/\(r=none->o=none)/\∀ p,r=some p->∃ v,o=some v/\Rep K F v p:=by
 have inv:(∃ l,d=.dk l)\/∃ l ks,d=.dt l/\k=.tup ks:=by
  clear o ry
  cases d<;>first|exact noS e|exact .inl ⟨_,rfl⟩|(cases k<;>first|exact noS e|exact .inr ⟨_,_,rfl,rfl⟩)
 rcases inv with⟨l,rfl⟩|⟨l,ks,rfl,rfl⟩
 ·obtain⟨xs,h1,h2,h3⟩:=o;have D:=eN.of (K:=K) (F:=F) h2 h3;have e:(qO k).map (fK l)=some r:=e;cases hk:qO k with
  |none=>rw[hk] at e;cases e
  |some k'=>
   rw[hk] at e;cases e;cases tZ hk ry;exact⟨_,.inl ⟨_,_,h1,rfl,rfl⟩,λn=>D.none n,λp q=>D.some q⟩
 ·obtain⟨xs,h1,h2,h3⟩:=o;have D:=eN.of (K:=K) (F:=F) h2 h3;have e:(jV ks).map (fK l)=some r:=e;cases hk:jV ks with
  |none=>rw[hk] at e;cases e
  |some k'=>
   rw[hk] at e;cases e;obtain⟨b,ys,rfl,hb,rr⟩:=Rep.zc ry;cases p7 hk rr;exact⟨_,.inr ⟨_,_,_,h1,rfl,s _ _ hb,rfl⟩,λn=>D.none n,λp q=>D.some q⟩
def jW(d k:PV):Option (Res PV):=match kI d k with
 |some (some p)=>some (.ok p)
 |_=>none
def Ph:R2:=λx y H Q=>∃ a v,x=.ref a/\sZ H a y (some v)/\Q v H
theorem Rj:R2M C (aD K) (aF K) (aF K) Ph jW:=by
 intro F H x y a b res Q s ha hb e P;obtain⟨_,ad,rfl,o⟩:=ha;unfold jW at e;split at e
 ·rename_i p hp;cases e;obtain⟨ov,g,_,g2⟩:=t7 s o hb hp;obtain⟨v,rfl,rv⟩:=g2 p rfl;exact⟨ad,v,rfl,g,P v F H (Up.refl s) rv⟩
 ·cases e
def zF(k d:PV):Option (Res PV):=(kI d k).map λr=>.ok (.bl r.isSome)
def lJ(k d:PV):Option (Res PV):=(kI d k).map λr=>.ok (.bl (!r.isSome))
theorem Tt:R2M C (aF K) (aD K) (aF K) (λy x H Q=>∃ a o,x=.ref a/\sZ H a y o/\Q (.bl o.isSome) H) zF:=by
 intro F H x y a b res Q s ha hb e P;obtain⟨_,ad,rfl,o⟩:=hb;unfold zF at e;cases hp:kI b a with
 |none=>rw[hp] at e;cases e
 |some r=>
  rw[hp] at e;cases e;obtain⟨ov,g,g1,g2⟩:=t7 s o ha hp;have es:ov.isSome=r.isSome:=by
   cases r with
   |none=>rw[g1 rfl];rfl
   |some p=>obtain⟨v,rfl,_⟩:=g2 p rfl;rfl
  exact⟨ad,ov,rfl,g,by rw[es];exact P _ F H (Up.refl s) .bl⟩
theorem J0:R2M C (aF K) (aD K) (aF K) (λy x H Q=>∃ a o,x=.ref a/\sZ H a y o/\Q (.bl (!o.isSome)) H) lJ:=by
 intro F H x y a b res Q s ha hb e P;obtain⟨_,ad,rfl,o⟩:=hb;unfold lJ at e;cases hp:kI b a with
 |none=>rw[hp] at e;cases e
 |some r=>
  rw[hp] at e;cases e;obtain⟨ov,g,g1,g2⟩:=t7 s o ha hp;have es:ov.isSome=r.isSome:=by
   cases r with
   |none=>rw[g1 rfl];rfl
   |some p=>obtain⟨v,rfl,_⟩:=g2 p rfl;rfl
  exact⟨ad,ov,rfl,g,by rw[es];exact P _ F H (Up.refl s) .bl⟩
def Cr:PV->PV->PV->Option PV
 |.dk l,k,p=>match qO k with
  |some k=>if l.length<sizeLine then some (.dk (dG l k p)) else none
  |none=>none
 |.dt l,.tup ks,p=>match jV ks with
  |some k=>if l.length<sizeLine then some (.dt (dG l k p)) else none
  |none=>none
 |_,_,_=>none
theorem Ex{F H:Hp}{a:Addr}{d k p d':PV}{y v:V}(s:aL F H)(o:Own K F H a d)(ry:Rep K F y k)(rv:Rep K F v p)(e:Cr d k p=some d') :
  ∃ ob,wV H a y v (upd H a ob)/\Own K F (upd H a ob) a d':=by
 have inv:(∃ l,d=.dk l)\/∃ l ks,d=.dt l/\k=.tup ks:=by
  clear o ry rv
  cases d<;>first|exact noS e|exact .inl ⟨_,rfl⟩|(cases k<;>first|exact noS e|exact .inr ⟨_,_,rfl,rfl⟩)
 rcases inv with⟨l,rfl⟩|⟨l,ks,rfl,rfl⟩
 ·obtain⟨xs,h1,h2,h3⟩:=o;have D:=eN.of (K:=K) (F:=F) h2 h3;have e:(match qO k with|some k=>if l.length<sizeLine then some (PV.dk (dG l k p)) else none|none=>none)=some d':=e
  split at e
  case h_2=>cases e
  rename_i k' hk;split at e
  case isFalse=>cases e
  rename_i hz;cases e;cases tZ hk ry;have D':=D.put (k:=k') rv;exact⟨_,wV.k h1 (by rw[D.len];exact hz),_,aP,D'.keys,D'.at⟩
 ·obtain⟨xs,h1,h2,h3⟩:=o;have D:=eN.of (K:=K) (F:=F) h2 h3;have e:(match jV ks with|some k=>if l.length<sizeLine then some (PV.dt (dG l k p)) else none|none=>none)=some d':=e
  split at e
  case h_2=>cases e
  rename_i k' hk;split at e
  case isFalse=>cases e
  rename_i hz;cases e;obtain⟨b,ys,rfl,hb,rr⟩:=Rep.zc ry;cases p7 hk rr;have D':=D.put (k:=k') rv;exact⟨_,wV.t h1 (s _ _ hb) (by rw[D.len];exact hz),_,aP,D'.keys,D'.at⟩
def zG(i:Nat)(fe fk:Fn PV):Sn:=λρ=>eE (fe ρ) λp=>match ownAt i ρ with
 |some d=>eE (fk ρ) λk=>match Cr d k p with
  |some d'=>some (.nx (ρ.set i (some (.ow d'))))
  |none=>none
 |none=>none
theorem Ey{i:Nat}{fe fk:Fn PV}(he:MJ K C (aF K) te fe)(hk:MJ K C (aF K) tb fk):MS K C (Jv (jx i) tb te) (zG i fe fk):=by
 intro F H σ ρ D o R e P;refine he.jh R e P λp v F1 H1 hk1 u a=>?_;split at hk1
 case h_2=>cases hk1
 rename_i d hd;obtain⟨b,g1,_⟩:=R.ow i _ (bc hd);refine⟨_,g1,hk.jh (R.up u) hk1 (P.up u.ff) λk w F2 H2 hk2 u2 rk=>?_⟩;split at hk2
 case h_2=>cases hk2
 rename_i d' hd';cases hk2;have R2:=R.up (u.trans u2);obtain⟨a',k1,k2,_⟩:=R2.ow i _ (bc hd);rw[g1] at k1;cases k1;obtain⟨ob,g,w'⟩:=Ex u2.fh k2 rk (Rep.up a u2.ff) hd';exact⟨b,_,rfl,g,P F2 _ σ (u.trans u2).ff (R2.write (bc hd) g1 w')⟩
theorem xF:MO K C Jx zB:=by
 intro F H σ ρ Q r R e P;cases e;intro p hp;exact P p F _ (Up.u9 R.rb.sub hp) hp (R.rb.sub.free hp) ⟨[],aP,rfl,λj x p h=>by simp at h⟩
end
section
variable{K:PySem.W.Frag}{C:Cg}{ta tb:TE}{f g:Fn PV}
theorem rN(ha:MJ K C (aD K) ta f)(hb:MJ K C (aF K) tb g):MJ K C (aF K) (Ju ta tb) (m2 jW f g):=aG (r2:=Ph) aD.up Rj ha hb
end
section
variable{X:Cx}
theorem Ro{k:Nat}(hr:cB k X.A):OpR X (compareOp .In) (λy x H Q=>∃ a o,x=.ref a/\sZ H a y o/\Q (.bl o.isSome) H):=by
 intro pins s σ H x y v u Q I rx ry h;obtain⟨a,o,rfl,g,q⟩:=h;cases ry;exact Ug (sU hr) I g rx λs3 I3=>⟨.bl o.isSome,H,I3,rfl,q⟩
theorem Hh{k:Nat}(hr:cB k X.A):OpR X (compareOp .NotIn) (λy x H Q=>∃ a o,x=.ref a/\sZ H a y o/\Q (.bl (!o.isSome)) H):=by
 intro pins s σ H x y v u Q I rx ry h;obtain⟨a,o,rfl,g,q⟩:=h;cases ry;exact Mp (sU hr) I g rx λs3 I3=>⟨.bl (!o.isSome),H,I3,rfl,q⟩
end
section
variable{X:Cx}{k:Nat}
theorem pC{X:Cx}{k:Nat}{o i:Expr}{pos:Pos}{td ty:TE}(hr:cB k X.A)(ho:PE X o td)(hi:PE X i ty)(hs:QQ i):PE X (.Subscript o i pos) (Ju td ty):=Mr (sU hr) ho hi hs
end
section
variable{X:Cx}
def CR(a b c:Int):Prop:=0<=a/\a<2^30/\-(2^30)<=b/\b<2^30/\0<c/\c<2^30
noncomputable instance(a b c:Int):Decidable (CR a b c):=inferInstanceAs (Decidable (_/\_))
def Pj:List V->Hp->VK->Prop:=λxs H Q=>∃ j:Int,xs=[.int j]/\-(2^30)<=j/\j<2^30/\∀ r,H r=none->Q (.ref r) (upd H r (.rng 0 j))
theorem Hi:lq X (.type "range") Pj:=by
 intro pins s σ H xs us Q I rv h;obtain⟨j,rfl,h1,h2,q⟩:=h;obtain⟨u,rfl,ru⟩:=rv.one;obtain⟨t,rfl⟩:=ru;refine call_range_1 ?_;exact⟨.ref s.heap.objs.size,_,I.laid (a:=s.heap.objs.size) (o:=.rng 0 j) (t':=s.toks+1+1) (λ_ _ q=>Zad _ q) (Zak _) ⟨_,_,_,Zas _ rfl⟩,rfl,q _ (I.hok.fresh (Zak _))⟩
def zH(j:Int):List V:=(List.range j.toNat).map λi=>.int (i:Nat)
theorem xG:(2:Nat)^23<=sizeLine/\sizeLine<=2^24:=by decide
theorem J1(j:Int):Builtin.Range.rangeSize 0 j 1=(j.toNat:Int):=by rw[rangeSize_one];split<;>omega
theorem mQ{acc:Array Value}{n:Nat}(h:ItemsOf (λi v=>∃ t,v=.int (0+(i:Nat)*1) t) acc n):Vals ((List.range n).map λi=>V.int (i:Nat)) acc.toList:=by
 obtain⟨hs,hv⟩:=h;have go:∀ (l:List Value) (k:Nat),(∀ (i:Nat) v,l[i]?=some v->∃ t,v=Value.int (((k+i:Nat):Int)) t)->Vals ((List.range' k l.length).map λi=>V.int (i:Nat)) l:=by
  intro l;induction l with
  |nil=>intro k _;exact .nil
  |cons v l ih=>
   intro k h;rw[Zax,List.range'_succ,ZaA];obtain⟨t,e⟩:=h 0 v rfl;refine .cons ⟨t,by rw[e];rfl⟩ (ih (k+1) λi v hv=>?_)
   obtain⟨t,e⟩:=h (i+1) v (by simpa using hv)
   exact⟨t,by rw[e];congr 2;omega⟩
 have:=go acc.toList 0 λi v e=>by
  obtain⟨t,e2⟩:=hv i v (by simpa using e)
  exact⟨t,by rw[e2];congr 1;omega⟩
 rwa [Za6,hs,<-List.range_eq_range'] at this
def J3(mk:List V->HO):List V->Hp->VK->Prop:=λxs H Q=>∃ p j,xs=[.ref p]/\H p=some (.rng 0 j)/\-(2^30)<=j/\j<=1000000/\∀ l,H l=none->Q (.ref l) (upd H l (mk (zH j)))
theorem Hj{j:Int}(h:j<=1000000)(h0:-(2^62)<=j):Builtin.Range.small 0 j 1=true:=small_one (by decide) (by decide) h0 (by omega)
theorem Hk(hc:X.calm=true):lq X (.type "list") (J3 .lst):=by
 intro pins s σ H xs us Q I rv h;obtain⟨p,j,rfl,hp,h0,hj,q⟩:=h;obtain⟨u,rfl,ru⟩:=rv.one;cases ru;obtain⟨t,u,v,hr⟩:=(show cY X.prog X.w H s.heap p (.rng 0 j) from I.hok p _ hp);have big:=xG;refine call_list_range (I.ok.hd hc) hr (Hj hj (by omega)) (J1 j) (by omega) λh' tk acc c' hk hS hacc=>?_
 have hv:=mQ hacc;refine⟨.ref s.heap.objs.size,_,I.laid (a:=s.heap.objs.size) (t':=tk) (o:=.lst (zH j)) hk (Zak _) (show cY X.prog X.w _ _ _ (.lst (zH j)) from⟨?_,acc.toList,c',hv,by simpa using hS⟩),rfl,q _ (I.hok.fresh (Zak _))⟩
 unfold zH;rw[Zam,List.length_range];omega
end
section
variable{K:PySem.W.Frag}{C:Cg}{F:Hp}{te:TE}{f:Fn PV}
def J5(mk:List PV->PV):PV->Option (Res PV)
 |.int j=>if -(2^30)<=j/\j<=1000000 then some (.ok (mk ((List.range j.toNat).map λi=>.int (i:Nat)))) else none
 |_=>none
theorem Cu(n:Nat):bz K F ((List.range n).map λi=>V.int (i:Nat)) ((List.range n).map λi=>PV.int (i:Nat)):=by
 refine⟨by simp,λj x p a b=>?_⟩
 rw[Zai] at a b;cases h:(List.range n)[j]? with
 |none=>rw[h] at a;cases a
 |some i=>rw[h] at a b;cases a;cases b;exact .int
theorem M6(h:MJ K C (aF K) te f):MO K C (tCB (J3 .lst) (eY (tCB Pj (eY te oJ)) oJ)) (m1 (J5 .lst) f):=by
 intro F H σ ρ Q r R e P;refine h.run R e P λp v F1 H1 hk u a=>?_
 match p,hk with
 |.int j,hk=>
  have hk:(if -(2^30)<=j/\j<=1000000 then some (Res.ok (PV.lst ((List.range j.toNat).map λi=>PV.int (i:Nat)))) else none)=some r:=hk;split at hk
  ·rename_i hj;cases hk;cases Rep.aX a;refine⟨j,rfl,hj.1,by omega,λrr hr=>⟨rr,j,rfl,aP,hj.1,hj.2,λl hl=>?_⟩⟩
   have u1:=Up.u9 (o:=.rng 0 j) u.fh hr;have un:=Up.u9 (o:=.lst (zH j)) u1.fh hl;exact P l _ _ (u.trans (u1.trans un)) (u.hh.free (u1.hh.free hl)) (u1.fh.free hl) ⟨_,aP,Cu _⟩
  ·cases hk
end
section
variable{K:PySem.W.Frag}{C:Cg}{ta:TE}{f:Fn PV}
def J6:PV->Option (Res PV)
 |.int i=>some (.ok (.int (Builtin.bitNot i)))
 |_=>none
theorem Rp(ha:MJ K C (aF K) ta f):MJ K C (aF K) (tUn (rU λi=>.int (Builtin.bitNot i)) ta) (m1 J6 f):=by
 intro F H σ ρ Q r R e P;refine ha.run R e P λp v F1 H1 hk u a=>?_
 match p,hk with
 |.int i,hk=>
  cases Rep.aX a;cases hk;exact⟨i,rfl,P _ F1 H1 u .int⟩
end
def POk(K:PySem.W.Frag)(C:Cg)(F:Hp)(D:Ends)(i:Nat)(c:Option (Option V)):Out->Prop
 |.nx ρ=>∀ F' H' σ,aL F F'->RE K C.toCf F' H' σ ρ->σ[i]?=c->D.nx σ H'
 |.bk ρ=>∀ F' H' σ,aL F F'->RE K C.toCf F' H' σ ρ->σ[i]?=c->D.bk σ H'
 |.ct ρ=>∀ F' H' σ,aL F F'->RE K C.toCf F' H' σ ρ->σ[i]?=c->D.ct σ H'
 |o=>PO' K C F D o
def MSk(K:PySem.W.Frag)(C:Cg)(i:Nat)(t:TS)(f:Sn):Prop:=∀ F H σ ρ D o,RE K C.toCf F H σ ρ->f ρ=some o->POk K C F D i (σ[i]?) o->t D σ H
def MGk(K:PySem.W.Frag)(C:Cg)(i:Nat)(g:TG)(tg:PV->Rho->Option Rho):Prop:=
 ∀ F H σ ρ v p ρ' Q,RE K C.toCf F H σ ρ->Rep K F v p->tg p ρ=some ρ'->(∀ σ',RE K C.toCf F H σ' ρ'->σ'[i]?=σ[i]?->Q σ' H)->g v σ H Q
section
variable{K:PySem.W.Frag}{C:Cg}{i:Nat}{te:TE}{F H:Hp}{σ:St}{ρ:Rho}{D:Ends}{t u:TS}{f g:Sn}{o:Out}{c:Option (Option V)}
theorem POk.up{F1:Hp}(h:POk K C F D i c o)(s:aL F F1):POk K C F1 D i c o:=by
 cases o with
 |nx ρ=>exact λF' H' σ a=>h F' H' σ (s.trans a)
 |bk ρ=>exact λF' H' σ a=>h F' H' σ (s.trans a)
 |ct ρ=>exact λF' H' σ a=>h F' H' σ (s.trans a)
 |rt p=>exact λv F' H' a=>h v F' H' (s.trans a)
 |ro p=>exact λv F' H' a=>h v F' H' (s.trans a)
 |rd p=>exact λv F' H' S a=>h v F' H' S (s.trans a)
 |ex z=>exact PX.up h s
theorem zJ(j:Nat)(h:j≠i):MGk K C i (qC j) (gN j):=λF H σ ρ v p ρ' Q R r e k=>by
 cases e;exact k _ (R.set j r) (Zac h)
theorem J7:MSk K C i Iz dw:=λF H σ ρ D o R e P=>by
 cases e;exact P F H σ (aL.refl _) R rfl
def Pk(f:Sn):Prop:=∀ ρ o,f ρ=some o->match o with
 |.nx _|.bk _|.ct _=>False
 |_=>True
theorem M7(h:MS K C t f)(he:Pk f):MSk K C i t f:=λF H σ ρ D o R e P=>by
 have:=he ρ o e;cases o with
 |nx ρ=>exact this.elim
 |bk ρ=>exact this.elim
 |ct ρ=>exact this.elim
 |rt p=>exact h F H σ ρ D _ R e P
 |ro p=>exact h F H σ ρ D _ R e P
 |rd p=>exact h F H σ ρ D _ R e P
 |ex z=>exact h F H σ ρ D _ R e P
theorem MT.Rq{tt:TT}{fe:Fn Bool}{Q:Bool->Hp->Prop}{k:Bool->Option Out}(h:MT K C tt fe)(R:RE K C.toCf F H σ ρ)(hb:eE (fe ρ) k=some o)(P:POk K C F D i c o)
  (go:∀ b F1 H1,k b=some o->Up F H F1 H1->Q b H1):tt σ H Q:=by
 rcases bR hb with⟨z,e,rfl⟩|⟨p,e,hk⟩
 ·exact h F H σ ρ Q _ R e P
 ·exact h F H σ ρ Q _ R e λF1 H1 u=>go p F1 H1 hk u
theorem MJ.Rq{α:Type}{A:Rel α}{ta:TE}{fe:Fn α}{Q:VK}{k:α->Option Out}(h:MJ K C A ta fe)(R:RE K C.toCf F H σ ρ)(hb:eE (fe ρ) k=some o)(P:POk K C F D i c o)
  (go:∀ p v F1 H1,k p=some o->Up F H F1 H1->A F1 H1 v p->Q v H1):ta σ H Q:=by
 rcases bR hb with⟨z,e,rfl⟩|⟨p,e,hk⟩
 ·exact h F H σ ρ Q _ R e P
 ·exact h F H σ ρ Q _ R e λv F1 H1 u a=>go p v F1 H1 hk u a
theorem Ez{fe:Fn PV}{gt:TG}{tg:PV->Rho->Option Rho}(h:MJ K C (aF K) te fe)(hg:MGk K C i gt tg):MSk K C i (wG te gt) (cP fe tg):=by
 intro F H σ ρ D o R e P;refine h.Rq R e P λp v F1 H1 hk u a=>?_;split at hk
 ·rename_i ρ' h1;cases hk;exact hg F1 H1 σ ρ v p ρ' _ (R.up u) a h1 λσ' R' k=>P F1 H1 σ' u.ff R' k
 ·cases hk
theorem rO(h1:MSk K C i t f)(h2:MSk K C i u g):MSk K C i (Gr t u) (bA f g):=by
 intro F H σ ρ D o R e P;unfold bA at e;split at e
 ·rename_i ρ' h;refine h1 F H σ ρ _ _ R h ?_;exact λF' H' σ' s R' k=>h2 F' H' σ' ρ' D o R' e (by rw[k];exact P.up s)
 ·rename_i x hx;cases o with
  |nx ρ'=>exact absurd e (hx ρ')
  |bk ρ=>exact h1 F H σ _ _ _ R e P
  |ct ρ=>exact h1 F H σ _ _ _ R e P
  |rt p=>exact h1 F H σ _ _ _ R e P
  |ro p=>exact h1 F H σ _ _ _ R e P
  |rd p=>exact h1 F H σ _ _ _ R e P
  |ex z=>exact h1 F H σ _ _ _ R e P
theorem Rr{c:TT}{fc:Fn Bool}(hc:MT K C c fc)(h1:MSk K C i t f)(h2:MSk K C i u g):MSk K C i (Lw c t u) (gf fc f g):=by
 intro F H σ ρ D o R e P;refine hc.Rq R e P λb F1 H1 hk uu=>?_;cases b with
 |true=>rw[Zae rfl] at hk ⊢;exact h1 F1 H1 σ ρ D o (R.up uu) hk (P.up uu.ff)
 |false=>rw[Zaf (by decide)] at hk ⊢;exact h2 F1 H1 σ ρ D o (R.up uu) hk (P.up uu.ff)
end
def New(H F' H':Hp)(S:Addr->Prop):Prop:=∀ b,S b->H b=none/\F' b=none/\∃ o,H' b=some o/\∀ ys,o≠.tup ys
def MD(K:PySem.W.Frag)(C:Cg)(te:TE)(f:Fn PV):Prop:=
 ∀ F H σ ρ Q r,RE K C.toCf F H σ ρ->f ρ=some r->Pr C F (λp=>∀ v F' H' S,Up F H F' H'->Dp K F' H' S v p->New H F' H' S->Q v H') r->te σ H Q
section
variable{K:PySem.W.Frag}{C:Cg}{te ta:TE}{F F1 F2 H H1 H2:Hp}{σ:St}{ρ:Rho}{D:Ends}{u:TS}{f g:Sn}{o:Out}{S:Addr->Prop}{v:V}{p:PV}
theorem New.up(n:New H F1 H1 S)(u:Up F1 H1 F2 H2):New H F2 H2 S:=λb q=>by
 obtain⟨n0,n1,o,n2,n3⟩:=n b q;refine⟨n0,?_,o,u.hh _ _ n2,n3⟩;cases e:F2 b with
 |none=>rfl
 |some o'=>
  rcases u.fr b o' e with z|z|⟨ys,z⟩
  ·rw[n1] at z;cases z
  ·rw[n2] at z;cases z
  ·subst z;have w:=u.fh _ _ e;rw[u.hh _ _ n2] at w;cases w;exact absurd rfl (n3 ys)
theorem Dp.stay(d:Dp K F1 H1 S v p)(u:Up F1 H1 F2 H2):Dp K F2 H2 S v p:=d.up u.ff (λb o _ q=>u.hh b o q) λb ys q=>u.hh b _ q
def pD(F H:Hp)(S:Addr->Prop):Hp:=λb=>@ite _ (S b\/∃ ys,H b=some (.tup ys)) (Classical.propDecidable _) (H b) (F b)
theorem mX{b:Addr}(h:S b\/∃ ys,H b=some (.tup ys)):pD F H S b=H b:=@if_pos _ (Classical.propDecidable _) h _ _ _
theorem jA{b:Addr}(h:¬(S b\/∃ ys,H b=some (.tup ys))):pD F H S b=F b:=@if_neg _ (Classical.propDecidable _) h _ _ _
theorem gK(s:aL F H):aL F (pD F H S):=λb o e=>by
 by_cases h:S b\/∃ ys,H b=some (.tup ys)
 ·rw[mX h];exact s b o e
 ·rw[jA h];exact e
theorem zK(s:aL F H):aL (pD F H S) H:=λb o e=>by
 by_cases h:S b\/∃ ys,H b=some (.tup ys)
 ·rw[mX h] at e;exact e
 ·rw[jA h] at e;exact s b o e
theorem zL(d:Dp K F H S v p)(s:aL F H):Rep K (pD F H S) v p:=
 d.seen (gK s) (λb o q e=>by rw[mX (.inl q)];exact e) λb ys e=>by rw[mX (.inr ⟨ys,e⟩)];exact e
def zM(fe:Fn PV):Fn PV:=λρ=>bnd (fe ρ) λp=>match p with
 |.lst l=>if l.all PV.still=true then some (.ok (.lst l)) else none
 |_=>none
theorem Pn{fe:Fn PV}(h:MO K C te fe):MD K C te (zM fe):=by
 intro F H σ ρ Q r R e P;rcases bx e with⟨z,e1,rfl⟩|⟨p,e1,hk⟩
 ·exact h F H σ ρ Q _ R e1 P
 ·split at hk
  ·rename_i l;split at hk
   ·rename_i hl;cases hk;refine h F H σ ρ Q _ R e1 λa F' H' u n1 n2 w=>?_;obtain⟨xs,e2,e3⟩:=w;refine P _ F' H' (λb=>b=a) u ?_ ?_
    ·refine .lst (S:=λ_ _=>False) e2 rfl (λj b q=>q.elim) (λi j b q=>q.elim) e3.1 λj x p e4 e5=>.fr (e3.2 j x p e4 e5) ?_;exact Zay.mp hl p (Zao e5)
    ·rintro b rfl;exact⟨n1,n2,_,e2,λys q=>by cases q⟩
   ·cases hk
  ·cases hk
def t8(fe:Fn PV):Fn PV:=λρ=>bnd (fe ρ) λp=>if p.still=true then some (.ok p) else none
theorem zN{fe:Fn PV}(h:MJ K C (aF K) te fe):MD K C te (t8 fe):=by
 intro F H σ ρ Q r R e P;rcases bx e with⟨z,e1,rfl⟩|⟨p,e1,hk⟩
 ·exact h F H σ ρ Q _ R e1 P
 ·split at hk
  ·rename_i hp;cases hk;exact h F H σ ρ Q _ R e1 λv F' H' u w=>P v F' H' (λ_=>False) u (.fr w hp) λb q=>q.elim
  ·cases hk
def Dps(K:PySem.W.Frag)(F H:Hp)(S:Nat->Addr->Prop)(xs:List V)(l:List PV):Prop:=
 xs.length=l.length/\(∀ i j b,S i b->S j b->i=j)/\∀ (j:Nat) x p,xs[j]?=some x->l[j]?=some p->Dp K F H (S j) x p
def MDs(K:PySem.W.Frag)(C:Cg)(ta:TA)(f:Fn (List PV)):Prop:=
 ∀ F H σ ρ Q r,RE K C.toCf F H σ ρ->f ρ=some r->Pr C F (λl=>∀ xs F' H' S,Up F H F' H'->Dps K F' H' S xs l->New H F' H' (λb=>∃ j,S j b)->Q xs H') r->ta σ H Q
theorem M8:MDs K C oJ bu:=λF H σ ρ Q r R e P=>by
 cases e;exact P [] F H (λ_ _=>False) (Up.refl R.rb.sub) ⟨rfl,λ_ _ _ q=>q.elim,λj x p e=>by simp at e⟩ λb ⟨_,q⟩=>q.elim
theorem zO{fe:Fn PV}{fs:Fn (List PV)}{ts:TA}(h:MD K C te fe)(hs:MDs K C ts fs):MDs K C (eY te ts) (aA fe fs):=by
 intro F H σ ρ Q r R e P;rcases bx e with⟨z,e1,rfl⟩|⟨p,e1,hk⟩
 ·exact h F H σ ρ _ _ R e1 P
 refine h F H σ ρ _ _ R e1 λv F1 H1 S u d n=>?_;rcases bx hk with⟨z,e2,rfl⟩|⟨l,e2,hk2⟩
 ·exact hs F1 H1 σ ρ _ _ (R.up u) e2 (PX.up P u.ff)
 refine hs F1 H1 σ ρ _ _ (R.up u) e2 λxs F2 H2 S2 u2 d2 n2=>?_;cases hk2;refine P (v::xs) F2 H2 (λj b=>match j with|0=>S b|j+1=>S2 j b) (u.trans u2) ⟨by simp[d2.1],λi j b a1 a2=>?_,λj x q a1 a2=>?_⟩ ?_
 ·match i,j,a1,a2 with
  |0,0,_,_=>rfl
  |0,j+1,a1,a2=>
   obtain⟨_,_,o,c1,_⟩:=n b a1;have c2:=(n2 b ⟨j,a2⟩).1;rw[c1] at c2;cases c2
  |i+1,0,a1,a2=>
   obtain⟨_,_,o,c1,_⟩:=n b a2;have c2:=(n2 b ⟨i,a1⟩).1;rw[c1] at c2;cases c2
  |i+1,j+1,a1,a2=>exact Zbi (·+1) (d2.2.1 i j b a1 a2)
 ·match j,a1,a2 with
  |0,a1,a2=>cases a1;cases a2;exact d.stay u2
  |j+1,a1,a2=>exact d2.2.2 j x q (by simpa using a1) (by simpa using a2)
 ·rintro b ⟨j,q⟩
  match j,q with
  |0,q=>exact(n.up u2) b q
  |j+1,q=>obtain⟨c1,c2⟩:=n2 b ⟨j,q⟩;exact⟨u.hh.free c1,c2⟩
theorem Rt{fs:Fn (List PV)}{ts:TA}(h:MDs K C ts fs):MD K C (LC ts) (kW fs):=by
 intro F H σ ρ Q r R e P;rcases bx e with⟨z,e1,rfl⟩|⟨l,e1,hk⟩
 ·exact h F H σ ρ _ _ R e1 P
 split at hk
 ·rename_i hl;cases hk;refine h F H σ ρ _ _ R e1 λxs F1 H1 S u d n=>⟨by rw[d.1];exact hl,λa ha=>?_⟩
  have sa:∀ b,(∃ j,S j b)->b≠a:=λb q e'=>by subst e';obtain⟨_,_,o,c,_⟩:=n b q;rw[ha] at c;cases c
  have u2:Up F1 H1 F1 (upd H1 a (.tup xs)):=⟨aL.refl _,eZ ha,λ_ _ q=>.inl q,λb o q=>by rw[aM (λz=>by subst z;have:=u.fh _ _ q;rw[ha] at this;cases this)];exact u.fh b o q⟩
  exact P (.ref a) F1 _ (λb=>∃ j,S j b) (u.trans u2) (.tup aP (λj b q=>⟨j,q⟩) d.2.1 d.1 λj x p a1 a2=>(d.2.2 j x p a1 a2).stay u2) (n.up u2)
 ·cases hk
def ir(i:Nat)(ρ:Rho):Option PV:=match ρ[i]? with
 |some (some (.dp p))=>some p
 |_=>none
theorem cN{i:Nat}{p:PV}(h:ir i ρ=some p):ρ[i]?=some (some (.dp p)):=by
 unfold ir at h;split at h
 ·rename_i q hq;cases h;exact hq
 ·cases h
theorem RE.Ul{C:Cf}(R:RE K C F H σ ρ)(i:Nat)(u:Up F H F1 H1)(d:Dp K F1 H1 S v p)(n:New H F1 H1 S)(nw:C.nw):RE K C F1 H1 (σ.set i (some v)) (ρ.set i (some (.dp p))) where
 rb:=R.rb.up u
 len:=by simp[R.len]
 sh:=λj q e=>by
  rcases get_set e with⟨e1,e2⟩|⟨e1,e2⟩
  ·cases e2
  ·obtain⟨w,e3,e4⟩:=(R.up u).sh j q e2;exact⟨w,by rw[Zac e1];exact e3,e4⟩
 ow:=λj q e=>by
  rcases get_set e with⟨e1,e2⟩|⟨e1,e2⟩
  ·cases e2
  ·obtain⟨w,e3,e4⟩:=(R.up u).ow j q e2;exact⟨w,by rw[Zac e1];exact e3,e4⟩
 dis:=λj k q q' b e e' f f'=>by
  rcases get_set e with⟨e1,e2⟩|⟨e1,e2⟩
  ·cases e2
  ·rcases get_set e' with⟨e1',e2'⟩|⟨e1',e2'⟩
   ·cases e2'
   ·rw[Zac e1] at f;rw[Zac e1'] at f';exact R.dis j k q q' b e2 e2' f f'
 dd:=by
  obtain⟨P,d0⟩:=R.dd;have d1:=d0.up u;refine⟨λj b=>if j=i then S b else P j b,λj b q=>?_,λj k b a1 a2=>?_,λj k q b z e f=>?_,λj q e=>?_⟩
  ·by_cases hj:j=i
   ·simp only[hj,ZaU] at q;obtain⟨c1,c2,c3⟩:=n b q;exact⟨c2,c3,nw,R.rb.qK c1⟩
   ·simp only[hj,ZaI] at q;exact d1.own j b q
  ·by_cases hj:j=i<;>by_cases hk:k=i
   ·rw[hj,hk]
   ·simp only[hj,hk,ZaU,ZaI] at a1 a2;obtain⟨_,⟨o,c,_⟩,_⟩:=d0.own k b a2;rw[(n b a1).1] at c;cases c
   ·simp only[hj,hk,ZaU,ZaI] at a1 a2;obtain⟨_,⟨o,c,_⟩,_⟩:=d0.own j b a1;rw[(n b a2).1] at c;cases c
   ·simp only[hj,hk,ZaI] at a1 a2;exact d0.dis j k b a1 a2
  ·rcases get_set e with⟨e1,e2⟩|⟨e1,e2⟩
   ·cases e2
   ·rw[Zac e1] at f;by_cases hj:j=i
    ·simp only[hj,ZaU] at z;exact R.apart (n b z).1 k q e2 f
    ·simp only[hj,ZaI] at z;exact d0.ow j k q b z e2 f
  ·rcases get_set e with⟨e1,e2⟩|⟨e1,e2⟩
   ·subst e1;cases e2;have:=cg e;refine⟨v,by rw[ZaE (by rw[R.len];simpa using this)],?_⟩
    simp only[ZaU];exact d
   ·obtain⟨w,e3,e4⟩:=d1.dp j q e2;refine⟨w,by rw[Zac e1];exact e3,?_⟩
    simp only[ZaS e1,ZaI];exact e4
def EY(i:Nat)(fe:Fn PV):Sn:=λρ=>eE (fe ρ) λp=>some (.nx (ρ.set i (some (.dp p))))
theorem M9{i:Nat}{fe:Fn PV}(nw:C.nw)(h:MD K C te fe):MS K C (wG te (qC i)) (EY i fe):=by
 intro F H σ ρ D o R e P;rcases bR e with⟨z,e1,rfl⟩|⟨p,e1,hk⟩
 ·exact h F H σ ρ _ _ R e1 P
 ·cases hk;exact h F H σ ρ _ _ R e1 λv F1 H1 S u d n=>P F1 H1 _ u.ff (R.Ul i u d n nw)
theorem RE.Tu{C:Cf}(R:RE K C F H σ ρ){i:Nat}(e:ρ[i]?=some (some (.dp p))):∃ S v,σ[i]?=some (some v)/\Dp K F H S v p/\(∀ b,S b->F b=none/\(∃ o,H b=some o/\∀ ys,o≠.tup ys)/\C.H0 b=none)/\RE K C (pD F H S) H σ (ρ.set i (some (.sh p))):=by
 obtain⟨P,d⟩:=R.dd;obtain⟨v,e1,e2⟩:=d.dp i p e;have li:=cg e;have sf:aL F (pD F H (P i)):=gK R.rb.sub;refine⟨P i,v,e1,e2,λb q=>⟨(d.own i b q).1,(d.own i b q).2.1,(d.own i b q).2.2.2⟩,⟨⟨zK R.rb.sub,R.rb.keep,λb o q=>?_,R.rb.ios⟩,by simp[R.len],λj q f=>?_,λj q f=>?_,λj k q q' b f f' g g'=>?_,?_⟩⟩
 ·by_cases h:P i b\/∃ ys,H b=some (.tup ys)
  ·rw[mX h] at q;rcases h with h|⟨ys,h⟩
   ·exact .inr (.inl (d.own i b h).2.2.2)
   ·rw[h] at q;cases q;exact .inr (.inr ⟨ys,rfl⟩)
  ·rw[jA h] at q;exact R.rb.new b o q
 ·rcases get_set f with⟨f1,f2⟩|⟨f1,f2⟩
  ·subst f1;cases f2;exact⟨v,e1,zL e2 R.rb.sub⟩
  ·obtain⟨w,g1,g2⟩:=R.sh j q f2;exact⟨w,g1,g2.up sf⟩
 ·rcases get_set f with⟨f1,f2⟩|⟨f1,f2⟩
  ·cases f2
  ·obtain⟨b,g1,g2,g3,g4⟩:=R.ow j q f2;refine⟨b,g1,g2.up sf λ_ z=>z,?_,g4⟩;rw[jA]
   ·exact g3
   ·rintro(z|⟨ys,z⟩)
    ·exact d.ow i j q b z f2 g1
    ·exact g2.qJ z
 ·rcases get_set f with⟨f1,f2⟩|⟨f1,f2⟩
  ·cases f2
  ·rcases get_set f' with⟨f1',f2'⟩|⟨f1',f2'⟩
   ·cases f2'
   ·exact R.dis j k q q' b f2 f2' g g'
 ·refine⟨λj b=>j≠i/\P j b,λj b z=>?_,λj k b a1 a2=>d.dis j k b a1.2 a2.2,λj k q b z f g=>?_,λj q f=>?_⟩
  ·obtain⟨c1,c2,c3⟩:=d.own j b z.2;refine⟨?_,c2,c3⟩;rw[jA]
   ·exact c1
   ·rintro(y|⟨ys,y⟩)
    ·exact z.1 (d.dis j i b z.2 y)
    ·obtain⟨o,c4,c5⟩:=c2;rw[y] at c4;cases c4;exact c5 ys rfl
  ·rcases get_set f with⟨f1,f2⟩|⟨f1,f2⟩
   ·cases f2
   ·exact d.ow j k q b z.2 f2 g
  ·rcases get_set f with⟨f1,f2⟩|⟨f1,f2⟩
   ·cases f2
   ·obtain⟨w,g1,g2⟩:=d.dp j q f2;refine⟨w,g1,(g2.up sf (λ_ _ _ q=>q) λ_ _ q=>q).mono λb z=>⟨ZaS f1,z⟩⟩
def mFz(i:Nat)(fe:Fn PV):Fn PV:=λρ=>match ir i ρ with
 |some p=>bnd (fe (ρ.set i (some (.sh p)))) λq=>if q.flat=true then some (.ok q) else none
 |none=>none
theorem Pq{i:Nat}{fe:Fn PV}(h:MJ K C (aF K) te fe):MJ K C (aF K) te (mFz i fe):=by
 intro F H σ ρ Q r R e P;unfold mFz at e;split at e
 ·rename_i p hp;obtain⟨S,v,_,_,_,R'⟩:=R.Tu (cN hp);have sf:aL F (pD F H S):=gK R.rb.sub;rcases bx e with⟨z,e1,rfl⟩|⟨q,e1,hk⟩
  ·exact h _ H σ _ Q _ R' e1 (PX.up P sf)
  ·split at hk
   ·rename_i hq;cases hk;exact h _ H σ _ Q _ R' e1 λw F1 H1 u rw'=>P w F H1 ⟨aL.refl _,u.hh,λ_ _ z=>.inl z,R.rb.sub.trans u.hh⟩ (Rep.free rw' hq)
   ·cases hk
 ·cases e
def Hl(i:Nat)(fe:Fn Bool):Fn Bool:=λρ=>match ir i ρ with
 |some p=>fe (ρ.set i (some (.sh p)))
 |none=>none
theorem Tw{i:Nat}{tt:TT}{fe:Fn Bool}(h:MT K C tt fe):MT K C tt (Hl i fe):=by
 intro F H σ ρ Q r R e P;unfold Hl at e;split at e
 ·rename_i p hp;obtain⟨S,v,_,_,_,R'⟩:=R.Tu (cN hp);have sf:aL F (pD F H S):=gK R.rb.sub;cases r with
  |ex z=>exact h _ H σ _ Q _ R' e (PX.up P sf)
  |ok b=>exact h _ H σ _ Q _ R' e λF1 H1 u=>P F H1 ⟨aL.refl _,u.hh,λ_ _ z=>.inl z,R.rb.sub.trans u.hh⟩
 ·cases e
end
section
variable{K:PySem.W.Frag}{C:Cg}{F H:Hp}{σ:St}{ρ:Rho}{f g:Sn}{o:Out}{v:V}{p:PV}
theorem RE.J8{C:Cf}(R:RE K C F H σ ρ){P:Nat->Addr->Prop}(d:RD K C F H σ ρ P){i:Nat}(e:ρ[i]?=some (some (.dp p)))(e1:σ[i]?=some (some v)){a:Addr}{ob:HO}(ha:P i a)(ho:∀ ys,ob≠.tup ys){p':PV}{S':Addr->Prop}
  (hd:Dp K F (upd H a ob) S' v p')(hS:∀ b,S' b->P i b\/(F b=none/\(∃ o,H b=some o/\∀ ys,o≠.tup ys)/\C.nw/\C.H0 b=none/\(∀ j,¬P j b)/\∀ (j:Nat) q,ρ[j]?=some (some (.ow q))->σ[j]?≠some (some (.ref b)))) :
  RE K C F (upd H a ob) σ (ρ.set i (some (.dp p'))):=by
 obtain⟨c1,⟨oa,c2,c3⟩,c4,c5⟩:=d.own i a ha;have hio:¬C.io a:=λz=>(R.rb.ios a z).2 c5;refine⟨⟨λb o q=>by rw[aM (λz=>by subst z;rw[c1] at q;cases q)];exact R.rb.sub b o q,λb o q z=>by rw[aM (λy=>by subst y;rw[c5] at q;cases q)];exact R.rb.keep b o q z,R.rb.new,λb z=>?_⟩,by simp[R.len],λj q f=>?_,λj q f=>?_,λj k q q' b f f' g g'=>?_,?_⟩
 ·refine⟨?_,(R.rb.ios b z).2⟩;rw[aM (λy=>by subst y;exact hio z)];exact(R.rb.ios b z).1
 ·rcases get_set f with⟨f1,f2⟩|⟨f1,f2⟩
  ·cases f2
  ·exact R.sh j q f2
 ·rcases get_set f with⟨f1,f2⟩|⟨f1,f2⟩
  ·cases f2
  ·obtain⟨b,g1,g2,g3,g4⟩:=R.ow j q f2;have nb:b≠a:=λz=>by subst z;exact d.ow i j q b ha f2 g1
   refine⟨b,g1,?_,g3,g4⟩;cases q with
   |lst l=>obtain⟨xs,k1,k2⟩:=g2;exact⟨xs,by rw[aM nb];exact k1,k2⟩
   |dk l=>obtain⟨xs,k1,k2⟩:=g2;exact⟨xs,by rw[aM nb];exact k1,k2⟩
   |dt l=>obtain⟨xs,k1,k2⟩:=g2;exact⟨xs,by rw[aM nb];exact k1,k2⟩
   |_=>exact g2.elim
 ·rcases get_set f with⟨f1,f2⟩|⟨f1,f2⟩
  ·cases f2
  ·rcases get_set f' with⟨f1',f2'⟩|⟨f1',f2'⟩
   ·cases f2'
   ·exact R.dis j k q q' b f2 f2' g g'
 ·have up:∀ b o,H b=some o->(∀ ys,o≠.tup ys)->∃ o',upd H a ob b=some o'/\∀ ys,o'≠.tup ys:=λb o q z=>by
   by_cases h:b=a
   ·subst h;exact⟨ob,aP,ho⟩
   ·exact⟨o,by rw[aM h];exact q,z⟩
  refine⟨λj b=>if j=i then S' b else P j b,λj b z=>?_,λj k b a1 a2=>?_,λj k q b z f g=>?_,λj q f=>?_⟩
  ·by_cases hj:j=i
   ·simp only[hj,ZaU] at z;rcases hS b z with w|⟨w1,⟨o,w2,w2'⟩,w3,w4,_⟩
    ·obtain⟨k1,⟨o,k2,k3⟩,k4⟩:=d.own i b w;exact⟨k1,up b o k2 k3,k4⟩
    ·exact⟨w1,up b o w2 w2',w3,w4⟩
   ·simp only[hj,ZaI] at z;obtain⟨k1,⟨o,k2,k3⟩,k4⟩:=d.own j b z;exact⟨k1,up b o k2 k3,k4⟩
  ·by_cases hj:j=i<;>by_cases hk:k=i
   ·rw[hj,hk]
   ·simp only[hj,hk,ZaU,ZaI] at a1 a2;rcases hS b a1 with w|⟨_,_,_,_,w,_⟩
    ·rw[hj];exact d.dis i k b w a2
    ·exact absurd a2 (w k)
   ·simp only[hj,hk,ZaU,ZaI] at a1 a2;rcases hS b a2 with w|⟨_,_,_,_,w,_⟩
    ·rw[hk];exact d.dis j i b a1 w
    ·exact absurd a1 (w j)
   ·simp only[hj,hk,ZaI] at a1 a2;exact d.dis j k b a1 a2
  ·rcases get_set f with⟨f1,f2⟩|⟨f1,f2⟩
   ·cases f2
   ·by_cases hj:j=i
    ·simp only[hj,ZaU] at z;rcases hS b z with w|⟨_,_,_,_,_,w⟩
     ·exact d.ow i k q b w f2 g
     ·exact w k q f2 g
    ·simp only[hj,ZaI] at z;exact d.ow j k q b z f2 g
  ·rcases get_set f with⟨f1,f2⟩|⟨f1,f2⟩
   ·subst f1;cases f2;refine⟨v,e1,?_⟩;simp only[ZaU];exact hd
   ·obtain⟨w,g1,g2⟩:=d.dp j q f2;refine⟨w,g1,?_⟩;simp only[ZaS f1,ZaI];refine g2.up (aL.refl _) (λb o z q=>?_) λb ys q=>?_
    ·rw[aM (λy=>by subst y;exact f1 (d.dis i j b ha z))];exact q
    ·rw[aM (λy=>by subst y;rw[c2] at q;cases q;exact c3 ys rfl)];exact q
end
def Um:Option Out->Option (Res PV)
 |some (.rd p)=>some (.ok p)
 |some (.ex z)=>some (.ex z)
 |_=>none
end L2.MP
namespace L2
open PySem PySem.Spec PyProof PyProof.Rows
namespace MP
end MP
def Uv:HO->Prop
 |.dK _=>True
 |.dT _=>True
 |_=>False
section
variable{σ:St}{H:Hp}{a:Addr}{u:HO}{raw:Obj}
def Ends.loose(D:Ends)(a:Addr)(raw:Obj)(u:HO):Ends where
 nx:=λσ H=>H a=some (.frz raw u)/\D.nx σ (upd H a u)
 bk:=λσ H=>H a=some (.frz raw u)/\D.bk σ (upd H a u)
 ct:=λσ H=>H a=some (.frz raw u)/\D.ct σ (upd H a u)
 rt:=λv H=>H a=some (.frz raw u)/\D.rt v (upd H a u)
end
end L2
namespace L2.MP
open PySem PySem.Spec PyProof.Rows
end L2.MP
namespace L2
open PySem PySem.Spec PyProof PyProof.Rows
namespace MP
end MP
namespace MP
end MP
namespace MP
end MP
end L2
namespace L2.MP
open PySem PySem.Spec PyProof.Rows
section
variable{K:PySem.W.Frag}{F G H:Hp}{S:Addr->Prop}{v:V}{p:PV}
theorem Rep.lz:∀ {n:Nat}{v:V}{p:PV},Rep K F v p->MP.lz n p=true->(∀ b ys,F b=some (.tup ys)->G b=some (.tup ys))->Rep K G v p
 |0,v,p,h,hs,g=>h.free hs
 |n+1,v,p,h,hs,g=>by
  cases h with
  |non=>exact .non
  |bl=>exact .bl
  |int=>exact .int
  |str=>exact .str
  |ty=>exact .ty
  |tup h hl hr=>exact .tup (g _ _ h) hl λj x p a b=>(hr j x p a b).lz (n:=n) (Zay.mp hs p (Zao b)) g
  |lst=>cases hs
  |dk=>cases hs
  |dt=>cases hs
  |exc=>cases hs
  |exc0=>cases hs
  |obj=>cases hs
def PV.rP:PV->Bool
 |.lst l=>l.all PV.still
 |.dk l=>l.all λkv=>kv.2.still
 |.dt l=>l.all λkv=>kv.2.still
 |_=>false
theorem Own.dp{a:Addr}(w:Own K F H a p)(h:p.rP=true):Dp K F H (λb=>b=a) (.ref a) p:=by
 cases p with
 |lst l=>
  obtain⟨xs,e2,e3⟩:=w;exact .lst (S:=λ_ _=>False) e2 rfl (λj b q=>q.elim) (λi j b q=>q.elim) e3.1 λj x p e4 e5=>.fr (e3.2 j x p e4 e5) (Zay.mp h p (Zao e5))
 |dk l=>
  obtain⟨xs,e2,e3,e4⟩:=w;exact .dk (S:=λ_ _=>False) e2 rfl (λj b q=>q.elim) (λi j b q=>q.elim) e3 λj x p e5 e6=>.fr (e4 j x p e5 e6) (Zay.mp h p (Zao e6))
 |dt l=>
  obtain⟨xs,e2,e3,e4⟩:=w;exact .dt (S:=λ_ _=>False) e2 rfl (λj b q=>q.elim) (λi j b q=>q.elim) e3 λj x p e5 e6=>.fr (e4 j x p e5 e6) (Zay.mp h p (Zao e6))
 |_=>cases h
end
open PySem PySem.Spec PyProof PyProof.Rows
def Pu(i j:Int):Prop:=i.natAbs<2^9000/\j.natAbs<2^9000
def Px(i j:Int):Bool:=decide (i.natAbs<2^9000/\j.natAbs<2^9000)
section
variable{K:PySem.W.Frag}{C:Cg}
theorem mY{X:Cx}:OpR X (binaryOp .Mult) (rI Pu λi j=>.int (i*j)):=_root_.L2.opI λ_ _ _ _ _ _ _ hc q=>mul_int q (PySem.IntMulOk.of_le (PyProof.Rows.intBits_le hc.1) (PyProof.Rows.intBits_le hc.2) (by decide))
def jX:=MP.opI Px λi j=>.int (i*j)
theorem p8:R2M C (aF K) (aF K) (aF K) (rI Pu λi j=>.int (i*j)) jX:=zr (λ_ _ h=>of_decide_eq_true (p:=_/\_) h) λ_ _ _=>.int
end
end L2.MP
namespace L2
open PySem PySem.Spec PyProof PyProof.Rows
open PySem PySem.W PyProof.Rows
def kIn{α:Type}(n:Nat)(P:α->Prop):KasT α->Prop
 |.ret a=>P a
 |.ask i j k=>i<n/\j<n/\∀ b,kIn n P (k b)
open PySem PySem.Spec PySem.W PyProof PyProof.Rows
open PySem PySem.Spec PySem.W PyProof PyProof.Rows
namespace MP
end MP
end L2
namespace L2.MP
open PySem PySem.Spec PyProof.Rows
end L2.MP
namespace L2
open PySem PySem.F PySem.Spec PyProof PyProof.Rows
namespace MP
end MP
open PySem PySem.Spec PyProof PyProof.Rows
namespace MP
end MP
open PySem PySem.Spec PySem.W PyProof PyProof.Rows
namespace MP
end MP
end L2
namespace L2.MP
open PySem PySem.Spec PyProof.Rows
end L2.MP
namespace L2
open PySem PySem.Spec PyProof PyProof.Rows
namespace MP
end MP
end L2
namespace L2.MP
open PySem PySem.Spec PyProof.Rows
section
variable{K:PySem.W.Frag}{F F2 H:Hp}{S:Addr->Prop}{v:V}{p:PV}
theorem Dp.Nb(d:Dp K F H S v p)(h:p.flat=true):Rep K F2 v p:=by
 cases d with
 |fr r _=>exact r.free h
 |lst=>cases h
 |tup=>cases h
 |dk=>cases h
 |dt=>cases h
 |obj=>cases h
theorem Dp.J9{l:List (Key×PV)}(d:Dp K F H S v (.dk l)):∃ (T:Nat->Addr->Prop) (a:Addr) (xs:List (Key×V)),v=.ref a/\H a=some (.dK xs)/\S a/\(∀ j b,T j b->S b/\b≠a)/\(∀ i j b,T i b->T j b->i=j)/\xs.map (·.1)=l.map (·.1)/\∀ (j:Nat) x p,xs[j]?=some x->l[j]?=some p->Dp K F H (T j) x.2 p.2:=by
 cases d with
 |fr r st=>cases st
 |dk h hp hs dj hl hr=>exact⟨_,_,_,rfl,h,hp,hs,dj,hl,hr⟩
end
def Ka(fe:Fn PV):Fn PV:=λρ=>bnd (fe ρ) λp=>if p.rP=true then some (.ok p) else none
theorem Kc{K:PySem.W.Frag}{C:Cg}{te:TE}{fe:Fn PV}(h:MO K C te fe):MD K C te (Ka fe):=by
 intro F H σ ρ Q r R e P;rcases bx e with⟨z,e1,rfl⟩|⟨p,e1,hk⟩
 ·exact h F H σ ρ Q _ R e1 P
 ·split at hk
  ·rename_i hp;cases hk;refine h F H σ ρ Q _ R e1 λa F' H' u n1 n2 w=>P _ F' H' (λb=>b=a) u (w.dp hp) ?_;rintro b rfl;obtain⟨ob,eo⟩:=w.ne;exact⟨n1,n2,ob,eo,λys q=>by subst q;exact w.qJ eo⟩
  ·cases hk
end L2.MP
namespace L2.TS
open PySem PySem.Spec PyProof.Rows
section
variable{r:Keyed->Nat}{la lb out:List Keyed}{ia ib:Nat}
def Srt(r:Keyed->Nat)(l:List Keyed):Prop:=l.Pairwise λx y=>r x<r y
structure Mg(r:Keyed->Nat)(la lb out:List Keyed)(ia ib:Nat):Prop where
 so:Srt r out
 lt:∀ o∈out,∀ z∈la.drop ia++lb.drop ib,r o<r z
 pm:out.Perm (la.take ia++lb.take ib)
end
section
variable{r:Keyed->Nat}{a b:Array Keyed}
def Good(r:Keyed->Nat)(a b out:Array Keyed):Prop:=Srt r out.toList/\out.toList.Perm (a.toList++b.toList)
structure In(r:Keyed->Nat)(a b out:Array Keyed)(ia ib:Nat):Prop where
 mg:Mg r a.toList b.toList out.toList ia ib
 ha:ia+1<a.size
 hb:ib<b.size
end
noncomputable abbrev T7:=Option (Array Keyed)×Nat×Nat×Array Keyed×Nat×Nat×Nat
noncomputable abbrev T6:=Option (Array Keyed)×Nat×Nat×Array Keyed×Nat×Nat
noncomputable abbrev T5:=Option (Array Keyed)×Nat×Nat×Array Keyed×Nat
section
variable{r:Keyed->Nat}{la lb out:List Keyed}{na nb:Nat}
structure Mh(r:Keyed->Nat)(la lb out:List Keyed)(na nb:Nat):Prop where
 so:Srt r out.reverse
 lt:∀ o∈out,∀ z∈la.take na++lb.take nb,r z<r o
 pm:out.Perm (la.drop na++lb.drop nb)
end
section
variable{r:Keyed->Nat}{a b:Array Keyed}
structure Ih(r:Keyed->Nat)(a b out:Array Keyed)(na nb:Nat):Prop where
 mh:Mh r a.toList b.toList out.toList na nb
 a0:1<=na
 a1:na<=a.size
 b0:2<=nb
 b1:nb<=b.size
def H7(r:Keyed->Nat)(a b:Array Keyed)(n:Nat):ForInStep T7->Prop
 |.done (some o,_)=>Good r a b o
 |.done (none,na,nb,out,_)=>Ih r a b out na nb/\na+nb<=n
 |.yield (none,na,nb,out,_)=>Ih r a b out na nb/\na+nb<=n
 |.yield (some _,_)=>False
def H6(r:Keyed->Nat)(a b:Array Keyed)(n:Nat):ForInStep T6->Prop
 |.done (some o,_)=>Good r a b o
 |.done (none,na,nb,out,_)=>Ih r a b out na nb/\na+nb<=n
 |.yield (none,na,nb,out,_)=>Ih r a b out na nb/\na+nb<=n
 |.yield (some _,_)=>False
def H5(r:Keyed->Nat)(a b:Array Keyed)(n:Nat):ForInStep T5->Prop
 |.done (some o,_)=>Good r a b o
 |.done (none,_)=>False
 |.yield (none,na,nb,out,_)=>Ih r a b out na nb/\na+nb<=n
 |.yield (some _,_)=>False
end
def Rk(r:Keyed->Nat)(a:Array Keyed)(k:Nat):Nat:=match a[k]? with
 |some x=>r x
 |none=>0
def Uo(r:Keyed->Nat)(a:Array Keyed)(i j:Nat):Prop:=∀ p q,i<=p->p<q->q<j->Rk r a p<Rk r a q
noncomputable abbrev Pd:=Nat×Nat×Nat
def Rn(r:Keyed->Nat)(a:Array Keyed):Nat->List Pd->Nat->Prop
 |s,[],e=>s=e
 |s,x::l,e=>x.1=s/\1<=x.2.1/\Uo r a s (s+x.2.1)/\Rn r a (s+x.2.1) l e
end L2.TS
namespace L2
open PySem PySem.Spec PyProof PyProof.Rows
namespace MP
end MP
open PySem PySem.Spec PySem.W PyProof PyProof.Rows
noncomputable abbrev Sk:=Str×List Int
open PySem PySem.Spec PySem.W PyProof PyProof.Rows
open PySem PySem.Spec PySem.W PyProof PyProof.Rows
end L2
namespace L2.MP
open PySem PySem.Spec PySem.W PyProof PyProof.Rows
end L2.MP
namespace L2
open PySem PySem.Spec PyProof PyProof.Rows
namespace MP
end MP
namespace MP
end MP
namespace MP
end MP
end L2
namespace L2.MP
section
variable{α:Type}{us:List α}
theorem len0(h:us.length=0):us=[]:=List.length_eq_zero_iff.mp h
theorem Nf{n:Nat}(h:us.length=n+1):∃ a vs,us=a::vs/\vs.length=n:=by
 cases us with
 |nil=>cases h
 |cons a vs=>exact⟨a,vs,rfl,Nat.succ.inj h⟩
theorem uc(h:us.length=1):∃ a,us=[a]:=by
 obtain⟨a,vs,rfl,h2⟩:=Nf h;cases len0 h2;exact⟨a,rfl⟩
theorem lK(h:us.length=2):∃ a b,us=[a,b]:=by
 obtain⟨a,vs,rfl,h2⟩:=Nf h;obtain⟨b,rfl⟩:=uc h2;exact⟨a,b,rfl⟩
theorem Ru(h:us.length=3):∃ a b c,us=[a,b,c]:=by
 obtain⟨a,vs,rfl,h2⟩:=Nf h;obtain⟨b,c,rfl⟩:=lK h2;exact⟨a,b,c,rfl⟩
theorem Uq(h:us.length=4):∃ a b c d,us=[a,b,c,d]:=by
 obtain⟨a,vs,rfl,h2⟩:=Nf h;obtain⟨b,c,d,rfl⟩:=Ru h2;exact⟨a,b,c,d,rfl⟩
end
end L2.MP
namespace L2
open PySem PySem.Spec PyProof PyProof.Rows
end L2
namespace L2.MP
open PySem PySem.Spec PyProof PyProof.Rows
end L2.MP
namespace L2.SE
open PySem
def Inc(xs:Array Nat):Prop:=xs.toList.Pairwise (·<·)
structure Good(b:Bool)(t:SetTable):Prop where
 led:t.led=b
 dum:t.dummies=#[]
 inc:Inc t.place
open PySem PySem.Spec PyProof PyProof.Rows
section
variable{prog:Program}{w:World}{K:Type}[DecidableEq K](knd:KeyKind prog w K)
def Apart(l:List (Int×Value)):Prop:=l.Pairwise λe f=>∀ k,knd.is k e.2=true->knd.is k f.2=true->False
variable{knd}
end
open PySem PySem.Spec PyProof PyProof.Rows
def byT(w:World):Bool:=w.params.followText "set-order"
noncomputable abbrev Ur(b:Bool):Obj:={ cls:=.type "set",dict:=none,data:=.set #[] 0 (.fresh 0 0 b) }
section
variable{prog:Program}{w:World}{K:Type}[DecidableEq K]{A:Around}{E:Value->Shared->Prop}{s:Shared}
def seen(key:Nat->K)(i:Nat):K->Bool:=λk=>(List.range i).any λj=>decide (k=key j)
theorem Kd(x:Value){Q:Value->Shared->Prop}(h:Q (.ref s.heap.objs.size) { s with heap:=s.heap.push (Ur (!byT w)) }) :
  codeAny (model prog w) A (.call (.builtin "set.__new__") ⟨[.type "set",x],[]⟩) (wants Q E) s:=by
 refine codeAny_of_tree ?_;show wpAny _ A.in1 (checkBuiltinCall "set.__new__" ⟨[.type "set",x],[]⟩>>=λ_=>again (.builtin "set.__new__" ⟨[.type "set",x],[]⟩)) _ _ s
 refine Zab (wpAny_of_eq (F.newCall_set_1 x) (Zal ⟨plainId_quiet F.plain_set_new _,codeAny_builtin F.entry_set_new ?_⟩));rw[Around.under_plainId F.plain_set_new _];unfold Builtin.«set.__new__» Builtin.Frozenset.newClass;have hs:=sub_set_self;obtain⟨hp,g,d,tk,os⟩:=s;dsimp only at h ⊢
 wp_walk
 refine wpAny_askSetting (Zal ?_);dsimp only;simp only[newObj];exact Zab (wpAny_alloc (Zal (Zal h)))
end
open PySem PySem.Spec PyProof PyProof.Rows
def It(h:Heap)(I:Addr)(f:Value)(i:Nat)(a:Addr)(n ep:Nat):Prop:=∃ o,h.get? I=some o/\o.cls=.type "set_iterator"/\o.data=.fields #[f,.int i 0,.ref a,.int n 0,.int ep 0]
open PySem PySem.Spec PyProof PyProof.Rows
open PySem PySem.Spec PyProof PyProof.Rows
open PySem PySem.Spec PyProof PyProof.Rows
def slots(t:SetTable):Nat->Nat
 |0=>0
 |i+1=>t.place.getD i 0+1
end L2.SE
namespace L2
open PySem PySem.Spec PyProof PyProof.Rows
def dd:List Int->List Int
 |[]=>[]
 |x::l=>if x∈l then dd l else x::dd l
namespace MP
end MP
namespace MP
end MP
end L2
namespace L2.MP
open PySem PySem.Spec PyProof.Rows
open PySem PySem.Spec PyProof PyProof.Rows
open PySem PySem.Spec PyProof PyProof.Rows
open PySem PySem.Spec PyProof PyProof.Rows
end L2.MP
namespace L2
open PySem PySem.Spec PyProof PyProof.Rows
namespace MP
end MP
namespace MP
end MP
end L2
namespace L2.MP
open PySem PySem.Spec PyProof.Rows
structure vf(X:Cx)(pins:List (Addr×Obj))(b:Addr):Prop where
 sz:X.s₀.heap.objs.size<=b
 loc:b≠X.env.locals
 cl:∀ x c,X.env.cells.lookup x=some c->c≠b
 pn:∀ p∈X.pn++pins,p.1≠b
structure Fly(X:Cx)(pins:List (Addr×Obj))(H:Hp)(h:Heap)(e:Addr)(C:Value)(d:Option Addr):Prop where
 own:vf X pins e
 nh:H e=none
 ob:∃ oe vs,h.get? e=some oe/\oe.cls=C/\oe.dict=d/\oe.slots=#[]/\oe.data=.fields vs/\1<vs.size /\
  (vs[1]?=some .none\/∃ T oT ts,vs[1]?=some (.ref T)/\T≠e/\vf X pins T/\H T=none/\h.get? T=some oT/\oT.data=.fields ts/\3<ts.size)
def Py(h:Heap)(e:Addr):Prop:=∃ oe vs T,h.get? e=some oe/\oe.data=.fields vs/\vs[1]?=some (.ref T)
section
variable{X:Cx}{pins:List (Addr×Obj)}{σ:St}{H:Hp}{s:Shared}{e:Addr}{C:Value}{d:Option Addr}
theorem pF(I:Inv X pins σ H s){b:Addr}(h:s.heap.objs.size<=b):vf X pins b where
 sz:=Zau I.sz h
 loc:=λz=>by have:=I.lt;rw[<-z] at this;exact absurd (Zah this h) (ZaV _)
 cl:=λx c q z=>by
  obtain⟨v,o,ho,_⟩:=I.cell x c q;have:=Zaj ho;rw[z] at this;exact absurd (Zah this h) (ZaV _)
 pn:=λp hp z=>by
  have:=Zaj (I.pin p hp).1;rw[z] at this;exact absurd (Zah this h) (ZaV _)
theorem vf.ch(m:vf X pins e):(e∈X.ex\/X.s₀.heap.objs.size<=e)/\e≠X.env.locals/\(∀ x c,X.env.cells.lookup x=some c->c≠e)/\∀ p∈X.pn++pins,p.1≠e:=⟨.inr m.sz,m.loc,m.cl,m.pn⟩
theorem vf.Qj(I:Inv X pins σ H s)(m:vf X pins e):e ∉ frs X.stack:=λhb=>by
 rcases ZaB.mp (I.wB e hb) with z|z
 ·exact m.loc z
 ·obtain⟨_,o,ho,_⟩:=I.ok.nZ.mem z;exact absurd (Zah (Zaj ho) m.sz) (ZaV _)
theorem Inv.Tz(I:Inv X pins σ H s){h':Heap}(m:vf X pins e)(nh:H e=none)(k:∀ b o,b≠e->s.heap.get? b=some o->h'.get? b=some o):Inv X pins σ H { s with heap:=h' }:=by
 refine I.call (g':=s.gens) (d':=s.drawn) (t':=s.toks) (ch:=[e]) ⟨λb o q _ _ hc=>k b o (λz=>hc (by simp[z])) q,λb o q _ _ hc=>⟨o.slots,k b o (λz=>hc (by simp[z])) q⟩,λ_ _ _ n _=>n,λb o q hc=>⟨o,k b o (λz=>hc (by simp[z])) q⟩,λ_ _ q=>q,λ_ _ _ q=>q,λb ps q=>⟨#[],by rw[q];simp⟩⟩ ?_ I.bare λb hb=>?_
 ·intro b u q;refine(I.hok b u q).stay (λc v hc z=>k c v ?_ z) (λ_ z=>z) λ_ _ z=>z;rcases hc with z|z
  ·rw[z];intro y;rw[y,nh] at q;cases q
  ·intro y;rw[y,nh] at z;cases z
 ·obtain rfl:b=e:=by simpa using hb
  exact m.ch
variable{M:Model}{E':Value->Shared->Prop}
theorem vR{Q:Unit->Shared->Prop}{head:Value}{hadNext:Bool}(I:Inv X pins σ H s)(hs:X.stack=X.env::X.outer)(hf:X.env.frame=some X.env.locals)(m:vf X pins e)(nh:H e=none)
  {oe:Obj}{vs:Array Value}(he:s.heap.get? e=some oe)(hc:oe.cls=C)(hdd:oe.dict=d)(hsl:oe.slots=#[])(hd:oe.data=.fields vs)(hsz:1<vs.size)
  (k:∀ s',Inv X pins σ H s'->Fly X pins H s'.heap e C d->Py s'.heap e->Q () s') :
  wpAny M X.A (do let a <-frameOf X.env;let pl <-entryPlaceOf X.env.locals hadNext;let b <-EntryCells.newEntry head a .none (rawInt X.env.locals) .none pl;setField (.ref e) 1 b) Q E' s:=by
 have hfr:X.A.frames=some (X.env::X.outer):=by rw[<-hs];exact I.ok.frames
 have hl:s.heap.FunFrames X.base (X.env::X.outer):=by rw[<-hs];exact I.stack
 have hfe:(X.env::X.outer).filterMap (·.frame)=frs X.stack:=by rw[hs];rfl
 refine Zab (wpAny_frameOf_fun hfr hl hf λh₁ hs₁=>?_);rw[hfe] at hs₁;refine Zab (wpAny_entryPlaceOf λpl hpl=>?_);unfold EntryCells.newEntry newFields;refine Zab (wpAny_newObj_type ?_ (hpl.sizeOk5 _ _ _ _ _));have nf:=m.Qj I;have he₁:h₁.get? e=some oe:=(hs₁.2.1 e nf).trans he;have he₂:=Zad (h:=h₁) { cls:=.type "traceback",dict:=none,data:=.fields ([head,.ref X.env.locals,.none,rawInt X.env.locals,.none]++(if pl.isEmpty then List.replicate 6 Value.none else pl)).toArray } he₁;refine wpAny_setField he₂ hd hsz ?_;have hTe:h₁.objs.size≠e:=ZbV (Zaj he₁);have hd₃:=Obj.data_mapFields hd (·.setIfInBounds 1 (Value.ref h₁.objs.size));have he₃:=Zbb (Obj.mapFields (·.setIfInBounds 1 (Value.ref h₁.objs.size))) he₂ (Obj.isFreed_of_fields hd₃);have hT₃:=(ZaM (h₁.push { cls:=.type "traceback",dict:=none,data:=.fields ([head,.ref X.env.locals,.none,rawInt X.env.locals,.none]++(if pl.isEmpty then List.replicate 6 Value.none else pl)).toArray })
  (Obj.mapFields (·.setIfInBounds 1 (Value.ref h₁.objs.size))) (ZaS hTe)).trans (Zas h₁ rfl)
 have keep:∀ b o,b≠e->h₁.get? b=some o->((h₁.push { cls:=.type "traceback",dict:=none,data:=.fields ([head,.ref X.env.locals,.none,rawInt X.env.locals,.none]++(if pl.isEmpty then List.replicate 6 Value.none else pl)).toArray }).update e (Obj.mapFields (·.setIfInBounds 1 (Value.ref h₁.objs.size)))).get? b=some o:=λb o hbe hb=>by
  rw[ZaM _ _ (ZaS hbe)];exact Zad _ hb
 have J:∀ h':Heap,(∀ b o,b≠e->h₁.get? b=some o->h'.get? b=some o)->Inv X pins σ H { s with heap:=h' }:=λh' keep=>by
  refine I.call (g':=s.gens) (d':=s.drawn) (t':=s.toks) (ch:=[e]) ⟨λb o q _ hb hc=>keep b o (λz=>hc (by simp[z])) ((hs₁.2.1 b hb).trans q),λb o q _ _ hc=>?_,λ_ _ _ n _=>n,λb o q hc=>?_,λ_ _ q=>q,λ_ _ _ q=>q,λb ps q=>⟨#[],by rw[q];simp⟩⟩ ?_ I.bare λb hb=>?_
  ·obtain⟨sl,z⟩:=hs₁.2.2 b o q;exact⟨sl,keep b _ (λz=>hc (by simp[z])) z⟩
  ·obtain⟨sl,z⟩:=hs₁.2.2 b o q;exact⟨_,keep b _ (λz=>hc (by simp[z])) z⟩
  ·intro b u q;refine(I.hok b u q).stay (λc v hc z=>keep c v ?_ ((hs₁.2.1 c ?_).trans z)) (λ_ z=>z) λ_ _ z=>z
   ·rcases hc with y|y
    ·rw[y];intro y;rw[y,nh] at q;cases q
    ·intro z;rw[z,nh] at y;cases y
   ·intro hm;have n:=I.wC c hm;rcases hc with y|y
    ·rw[<-y,n] at q;cases q
    ·rw[n] at y;cases y
  ·obtain rfl:b=e:=by simpa using hb
   exact m.ch
 have mT:vf X pins h₁.objs.size:=pF I (by rw[hs₁.1];exact Zak _)
 have nT:H h₁.objs.size=none:=I.hok.fresh (by rw[hs₁.1];exact Zak _)
 refine k _ ?_ ⟨m,nh,_,_,he₃,?_,?_,?_,hd₃,by simpa using hsz,.inr ⟨h₁.objs.size,_,_,by simp[hsz],hTe,mT,nT,hT₃,rfl,?_⟩⟩ ⟨_,_,h₁.objs.size,he₃,hd₃,by simp[hsz]⟩
 ·exact J _ keep
 ·rw[Obj.cls_mapFields];exact hc
 ·obtain⟨c,dd,dt,sl⟩:=oe;cases dt<;>first|exact hdd|cases hd
 ·obtain⟨c,dd,dt,sl⟩:=oe;cases dt<;>first|exact hsl|cases hd
 ·simp only[List.size_toArray,Zaw,Zax,List.length_nil];omega
theorem zP{Q:Unit->Shared->Prop}(I:Inv X pins σ H s)(hs:X.stack=X.env::X.outer)(hf:X.env.frame=some X.env.locals)(fl:Fly X pins H s.heap e C d)
  (k:∀ s',Inv X pins σ H s'->Fly X pins H s'.heap e C d->Py s'.heap e->Q () s'):wpAny M X.A (noteFrame (.ref e) X.env) Q E' s:=by
 obtain⟨m,nh,oe,vs,he,hc,hdd,hsl,hd,hsz,h1⟩:=id fl;unfold noteFrame;simp only[hf];rcases h1 with h1|⟨T,oT,ts,h1,hTe,mT,nT,hT,hdT,h3⟩
 ·refine Zab (wpAny_field he hd h1 ?_);rw[Zaf (by decide)]
  exact vR I hs hf m nh he hc hdd hsl hd hsz k
 ·refine Zab (wpAny_field he hd h1 ?_);rw[Zae (show(Value.ref T != Value.none)=true from by simp)]
  have h3':ts[3]?=some ts[3]:=by simp[h3]
  refine Zab (wpAny_field hT hdT h3' ?_);by_cases hz:(ts[3]==rawInt X.env.locals)=true
  ·rw[Zae hz];exact Zal (k s I fl ⟨oe,vs,T,he,hd,h1⟩)
  ·rw[Zaf hz];refine Zab (wpAny_setField hT hdT h3 ?_);have other:∀ b,b≠T->(s.heap.update T (Obj.mapFields (·.setIfInBounds 3 Value.none))).get? b=s.heap.get? b:=λb hb=>ZaM _ _ (ZaS hb);have I1:=Inv.Tz I mT nT (h':=s.heap.update T (Obj.mapFields (·.setIfInBounds 3 Value.none))) λb o hb q=>(other b hb).trans q;exact vR I1 hs hf m nh ((other e (ZaS hTe)).trans he) hc hdd hsl hd hsz k
theorem ou{Q:Unit->Shared->Prop}{fr:Option Addr}(I:Inv X pins σ H s)(fl:Fly X pins H s.heap e C d)
  (k:∀ s',Inv X pins σ H s'->Fly X pins H s'.heap e C d->Q () s'){A:Around}:wpAny M A (setFlight (.ref e) fr) Q E' s:=by
 obtain⟨m,nh,oe,vs,he,hc,hdd,hsl,hd,hsz,h1⟩:=id fl;unfold setFlight;rcases h1 with h1|⟨T,oT,ts,h1,hTe,mT,nT,hT,hdT,h3⟩
 ·refine Zab (wpAny_field he hd h1 ?_);rw[Zaf (by decide)]
  exact Zal (k s I fl)
 ·refine Zab (wpAny_field he hd h1 ?_);rw[Zae (show(Value.ref T != Value.none)=true from by simp)]
  refine wpAny_setField hT hdT h3 ?_;have hd₃:=Obj.data_mapFields hdT (·.setIfInBounds 3 (fr.elim Value.none λf=>rawInt f));have other:∀ b,b≠T->(s.heap.update T (Obj.mapFields (·.setIfInBounds 3 (fr.elim Value.none λf=>rawInt f)))).get? b=s.heap.get? b:=λb hb=>ZaM _ _ (ZaS hb);refine k _ (Inv.Tz I mT nT λb o hb q=>(other b hb).trans q) ⟨m,nh,oe,vs,(other e (ZaS hTe)).trans he,hc,hdd,hsl,hd,hsz,.inr ⟨T,_,_,h1,hTe,mT,nT,Zbb _ hT (Obj.isFreed_of_fields hd₃),hd₃,by simpa using h3⟩⟩
end
def FlS(X:Cx)(pins:List (Addr×Obj))(σ:St)(E:XK)(ev:Value)(s':Shared):Prop:=∃ e C d H',ev=.ref e/\Inv X pins σ H' s'/\Fly X pins H' s'.heap e C d/\E C d H'
def FlX(X:Cx)(E:XK)(ev:Value)(s':Shared):Prop:=∃ pins σ,FlS X pins σ E ev s'
structure Us(n:Nat)(H:Hp)(h:Heap)(e:Addr)(C:Value)(d:Option Addr):Prop where
 sz:n<=e
 nh:H e=none
 ob:∃ oe vs,h.get? e=some oe/\oe.cls=C/\oe.dict=d/\oe.slots=#[]/\oe.data=.fields vs/\1<vs.size /\
  (vs[1]?=some .none\/∃ T oT ts,vs[1]?=some (.ref T)/\T≠e/\n<=T/\H T=none/\h.get? T=some oT/\oT.data=.fields ts/\3<ts.size)
def CXS(P:Program)(w:World):CXT:=λouter H s E ev s'=>∃ e C d H',ev=.ref e/\s'.os=s.os/\AllBare s'.gens/\Un (frs outer) [] H H' s.heap s'.heap/\HOk P w H' s'.heap/\Us s.heap.objs.size H' s'.heap e C d/\E C d H'
theorem CXS.no{P:Program}{w:World}{o:List Env}{H:Hp}{s s':Shared}{e:Value}(h:CXS P w o H s (λ_ _ _=>False) e s'):False:=by
 obtain⟨_,_,_,_,_,_,_,_,_,_,z⟩:=h;exact z
section
variable{X:Cx}{pins:List (Addr×Obj)}{σ:St}{H:Hp}{s s':Shared}{E:XK}{ev:Value}
theorem FlS.Fb(I:Inv X pins σ H s)(h:CXS X.prog X.w X.stack H s E ev s'):FlS X pins σ E ev s':=by
 obtain⟨e,C,d,H',rfl,os,bare,un,hok,⟨sz,nh,oe,vs,he,hc,hdd,hsl,hd,hsz,h1⟩,hE⟩:=h;refine⟨e,C,d,H',rfl,I.call' (ch:=[]) os un hok bare (λb z=>absurd z (by simp)),⟨pF I sz,nh,oe,vs,he,hc,hdd,hsl,hd,hsz,?_⟩,hE⟩
 rcases h1 with h1|⟨T,oT,ts,h1,a,b,c⟩
 ·exact .inl h1
 ·exact .inr ⟨T,oT,ts,h1,a,pF I b,c⟩
theorem Ng:gQ (CXS X.prog X.w) (X.wish (FlX X E)) E:=λpins σ H s e s' I h=>⟨pins,σ,FlS.Fb I.fO h⟩
end
section
variable{P:Program}{w:World}{K:PySem.W.Frag}{mg:Str->Option Value}{base:Heap}
theorem leaves{N:List Str}{q:Str}{sc:Scope}{f:Addr}{cd:Value}{A:Around}{o:List Env}{s:Shared}{H:Hp}{E:XK}{ev:Value}{s':Shared}
  (h:FlX (qZ (CXS P w) P w K mg base N q sc f cd A o s H E) E ev s'):(qZ (CXS P w) P w K mg base N q sc f cd A o s H E).xe ev s':=by
 obtain⟨pins,σ,e,C,d,H',rfl,I,fl,hE⟩:=h;show wpAny _ _ (leaving _ _) _ _ _
 unfold leaving;refine Zab (zP I rfl rfl fl λs1 I1 f1 n1=>?_);refine ou I1 f1 λs2 I2 f2=>?_;obtain⟨m,nh,oe,vs,he,hc,hdd,hsl,hd,hsz,h1⟩:=f2;refine⟨e,C,d,H',rfl,I2.os,I2.bare,I2.base,I2.hok,⟨m.sz,nh,oe,vs,he,hc,hdd,hsl,hd,hsz,?_⟩,hE⟩;rcases h1 with h1|⟨T,oT,ts,h1,a,b,c⟩
 ·exact .inl h1
 ·exact .inr ⟨T,oT,ts,h1,a,b.sz,c⟩
theorem PSs.ofX{X:Cx}{E:Value->Shared->Prop}{st:List Stmt}{t:TS}(k:∀ e s',E e s'->X.xe e s')(h:PSs (X.wish E) st t):PSs X st t:=λpins s σ H D I hw=>
 ZaG (h pins s σ H D (I.wish _) hw) (λ_ _ q=>q.fO) λe s' z=>k e s' z
def ud(P:Program)(w:World)(K:PySem.W.Frag)(mg:Str->Option Value)(base:Heap)(x:Str)(k:Nat)(ps:List Str)(sp:Sp):Prop:=
 ∃ (f:Addr) (fd:FuncData),mg x=some (.ref f)/\keepIn K (.ref f)=true/\Binds K fd ps []/\jg P w K mg base (CXS P w) k f fd ps sp
noncomputable abbrev cxX(P:Program)(w:World)(K:PySem.W.Frag)(mg:Str->Option Value)(base:Heap)(N:List Str)(x:Str)(sc:Scope)(f:Addr)(cdv:Value)(A:Around)(outer:List Env)(s:Shared)(H:Hp)(E:XK):Cx:=
 (qZ (CXS P w) P w K mg base N x sc f cdv A outer s H E).wish (FlX (qZ (CXS P w) P w K mg base N x sc f cdv A outer s H E) E)
theorem ue{N:List Str}{x:Str}{sc:Scope}{f:Addr}{cdv:Value}{A:Around}{outer:List Env}{s:Shared}{H:Hp}{E:XK}:gQ (CXS P w) (cxX P w K mg base N x sc f cdv A outer s H E) E:=
 Ng (X:=qZ (CXS P w) P w K mg base N x sc f cdv A outer s H E)
end
open PySem PySem.Spec PyProof.Rows PySem.Calls Builtin Builtin.ObjectAttr
noncomputable abbrev Ke(C t:Addr)(dx:Option Addr):Obj:={ cls:=.ref C,dict:=dx,data:=.fields #[.ref t,.none,.none,.none,.bool false,.none] }
section
variable{h:Heap}{g:Array GenState}{d:Drawn}{t:Nat}{os:OsState}
variable{nm q:Str}{C N:Addr}{bs bm:List Value}{hdct:Bool}{sn:List Str}{sub:List Value}{ab:Bool}{col:Option Bool}{dd:Option Addr}{k0 k1 k2 k3 k5:Option Value}
theorem Cv{M:Model}{A:Around}{E:Value->Shared->Prop}(hV:bm.contains (.type "ValueError")=true){rest:List Value}{Q:Unit->Shared->Prop}
  (hC:h.get? C=some (excClassObj nm q C N bs bm hdct sn sub ab col dd k0 k1 k2 k3 k5 "ValueError.__new__"))(hq:Q () ⟨h,g,d,t,os⟩) :
  wpAny M A (checkBuiltinCall "ValueError.__new__" ⟨.ref C::rest,[]⟩) Q E ⟨h,g,d,t,os⟩:=by
 have Fn:=ZaY;have hcont:(Value.ref C::bm).contains (.type "ValueError")=true:=by rw[ZaL,hV,Zbt]
 have hstar:=Fn.noStar;simp only[checkBuiltinCall,Fn.newKind,Fn.newSplit,Fn.newRow];repeat (first|refine wpAny_loadPart_at hC ?_|(refine wpAny_isSubtype_exc hC ?_;rw[hcont])|refine wpAny_staticBase_exc hC ?_|refine wpAny_madeBy_exc hC ?_|simp only[bne_self_eq_false,Zbl,ZaI]|wp_step)
 exact hq
variable{prog:Program}{w:World}{A:Around}{R:Result->Shared->Prop}
theorem newX(hV:bm.contains (.type "ValueError")=true)(hA:bm.contains (.type "AttributeError")=false)(hN:bm.contains (.type "NameError")=false){rest:List Value}
  (hC:h.get? C=some (excClassObj nm q C N bs bm hdct sn sub ab col dd k0 k1 k2 k3 k5 "ValueError.__new__"))
  (hq:R (.ok (.ret (.ref (h.objs.size+1)))) ⟨(h.push { cls:=.type "tuple",data:=.seq rest.toArray }).push (Ke C h.objs.size none),g,d,t,os⟩)(hrest:rest.length<=sizeLine) :
  codeAny (model prog w) A (.builtin "ValueError.__new__" ⟨.ref C::rest,[]⟩) R ⟨h,g,d,t,os⟩:=by
 have Fn:=ZaY;have hends:=Fn.ends;have hcB:(Value.ref C::bm).contains (.type "ValueError")=true:=by rw[ZaL,hV,Zbt]
 have hcA:(Value.ref C::bm).contains (.type "AttributeError")=false:=by rw[ZaL,hA];rfl
 have hcN:(Value.ref C::bm).contains (.type "NameError")=false:=by rw[ZaL,hN];rfl
 refine codeAny_builtinAt Fn.entry ?_;unfold Builtin.«BaseException.__new__»;refine PySem.wpAt_bind ?_;show PySem.wpAt _ _ _ (stack>>=_) _ _ _
 refine PySem.wpAt_bind (PySem.wpAt_stack λp below=>PySem.wpAt_of_wpAny ?_)
 wp_walk
 refine PySem.wpAt_of_wpAny ?_;rw[Fn.owner];repeat (first|with_reducible refine wpAny_madeHere_exc Fn.canon hC ?_|with_reducible refine wpAny_loadPart_at hC ?_|(with_reducible refine wpAny_isSubtype_exc hC ?_;first|rw[hcB]|rw[hcA]|rw[hcN])|wp_step)
 show R _ _
 rw[Zbr];exact hq
end
open PySem PySem.Spec PyProof.Rows PySem.Calls Builtin Builtin.ObjectAttr
noncomputable abbrev Cy:List Value:=[.type "ValueError",.type "Exception",.type "BaseException",.type "object"]
def ji:List Value->Bool
 |.ref _::r=>ji r
 |l=>l==Cy
theorem Cz{x:Value}(hx:Cy.contains x=true):∀ (l:List Value),ji l=true->l.contains x=true
 |l,e=>by
  unfold ji at e;split at e
  ·rw[ZaL,Cz hx _ e,Zbt]
  ·rw[beq_iff_eq.mp e];exact hx
termination_by l=>l.length
theorem CG{n:String}(hx:Cy.contains (.type n)=false):∀ (l:List Value),ji l=true->l.contains (.type n)=false
 |l,e=>by
  unfold ji at e;split at e
  ·rw[ZaL,CG hx _ e];rfl
  ·rw[beq_iff_eq.mp e];exact hx
termination_by l=>l.length
def XN(e C:Addr)(d:Option Addr):HO:=.ext λh=>∃ vs:Array Value,h.get? e=some { cls:=.ref C,dict:=d,data:=.fields vs }/\1<vs.size/\vs[1]?=some .none
def XD(dx:Addr)(fs:List (Str×V)):HO:=.ext λh=>fs.length<=1000/\∃ mA,h.Ns1 dx mA/\(∀ f,kJ (fs.lookup f) (mA f))/\PySem.Within mA (fs.map (·.1))
section
variable{P:Program}{w:World}{H:Hp}{h:Heap}{e C:Addr}{d:Option Addr}
theorem XO.mk{vs:Array Value}(a:h.get? e=some { cls:=.ref C,dict:=d,data:=.fields vs }):cY P w H h e (XO e C d):=
 ⟨⟨vs,a⟩,⟨_,a⟩,λ_ _ ⟨vs,a⟩ k=>⟨vs,k _ a⟩⟩
end
section
variable{H:Hp}{s:Shared}{C:Addr}{x:Str}{e:Expr}{vs:List V}
def del(H:Hp)(a:Addr):Hp:=λb=>if b=a then none else H b
theorem zQ{H:Hp}{a:Addr}:del H a a=none:=by unfold del;rw[Zae rfl]
theorem CJ{H:Hp}{a b:Addr}(h:b≠a):del H a b=H b:=by unfold del;rw[Zaf h]
theorem CK{M:Model}{A:Around}{E:Value->Shared->Prop}{env:Env}{y:Sem Value}{QF:Flow->Shared->Prop}{nm q:Str}{N:Addr}{bs bm:List Value}{hdct:Bool}{sn:List Str}{sub:List Value}{ab:Bool}{col:Option Bool}{dd:Option Addr}{k0 k1 k2 k3 k5:Option Value}{newId:String}
  (hbase:bm.contains (.type "BaseException")=true)(hh:A.handled=none)
  (h:wpAny M A y (λv s₁=>∃ e d,∃ vs:Array Value,v=.ref e/\s₁.heap.get? C=some (excClassObj nm q C N bs bm hdct sn sub ab col dd k0 k1 k2 k3 k5 newId) /\
   s₁.heap.get? e=some { cls:=.ref C,dict:=d,data:=.fields vs }/\vs[1]?=some .none/\E (.ref e) s₁) E s) :
  wpAny M A (raiseStmt env (some y) none) QF E s:=by
 have hcB:(Value.ref C::bm).contains (.type "BaseException")=true:=by rw[ZaL,hbase,Zbt]
 unfold raiseStmt;refine Zab (ZaG h (λv s₁ h₁=>?_) λ_ _ x=>x);obtain⟨e,d,vs,rfl,hC,he,hv1,hE⟩:=h₁;obtain⟨hp,g,dr,tk,os⟩:=s₁;repeat (first|with_reducible refine wpAny_loadPart_at he ?_|with_reducible refine wpAny_loadPart_at hC ?_|(with_reducible refine wpAny_isSubtype_exc hC ?_;rw[hcB])|wp_step)
 rw[hv1];refine Zal ?_;rw[Zaf (by decide)]
 exact Zal (wpAny_raiseNew_none hh hE)
end
noncomputable abbrev Cx.hand(X:Cx)(ev:Value)(E:Value->Shared->Prop):Cx:={ X with A:=X.A.mark (some ev),calm:=false,xe:=E }
section
variable{X:Cx}{pins:List (Addr×Obj)}{σ:St}{H:Hp}{s:Shared}{ev:Value}{E:Value->Shared->Prop}{e C:Addr}{d:Option Addr}
theorem Inv.hand(I:Inv X pins σ H s)(ev:Value)(E:Value->Shared->Prop):Inv (Cx.hand X ev E) pins σ H s:=
 let ok:=I.ok
 ⟨⟨ok.mod,ok.kind,ok.glob,ok.blt,ok.above,ok.inj,ok.has,ok.cab,(λz=>by cases z),ok.frames,ok.stk,ok.exf,ok.bs,ok.bsz,ok.noex,ok.exfs,ok.nZ,ok.frf⟩,I.os,I.bare,I.base,I.loc,I.cell,I.free,I.freeC,I.pin,I.hok,I.len⟩
theorem Inv.xH(ok:X.Ok)(I:Inv (Cx.hand X ev E) pins σ H s):Inv X pins σ H s:=
 ⟨ok,I.os,I.bare,I.base,I.loc,I.cell,I.free,I.freeC,I.pin,I.hok,I.len⟩
theorem Inv.track(I:Inv X pins σ H s)(fl:Fly X pins H s.heap e (.ref C) d):Inv X pins σ (upd H e (XO e C d)) s:=by
 obtain⟨m,nh,oe,vs,he,hc,hdd,hsl,hd,hsz,h1⟩:=fl;have ne:∀ b o,H b=some o->b≠e:=λb o q z=>by rw[z,nh] at q;cases q
 have obj:s.heap.get? e=some { cls:=.ref C,dict:=d,data:=.fields vs }:=by
  rw[he];obtain⟨c,dd,dt,sl⟩:=oe;cases hc;cases hdd;cases hsl;cases hd;rfl
 refine⟨I.ok,I.os,I.bare,⟨I.base.keep,I.base.slot,λb o q n x=>?_,I.base.there,λb xs q=>?_,λb o u q=>?_,λb ps q=>?_⟩,I.loc,I.cell,?_,λx c q=>?_,λp hp=>?_,λb o q=>?_,I.len⟩
 ·rw[aM (ZaC (Zah (Zaj q) m.sz))];exact I.base.free b o q n x
 ·have:=I.base.tups b xs q;rw[aM (ne b _ this)];exact this
 ·have:=I.base.frzs b o u q;rw[aM (ne b _ this)];exact this
 ·obtain⟨z,this⟩:=I.base.tbls b ps q;exact⟨z,by rw[aM (ne b _ this)];exact this⟩
 ·rw[aM (ZaS m.loc)];exact I.free
 ·rw[aM (m.cl x c q)];exact I.freeC x c q
 ·obtain⟨a1,a2,a3⟩:=I.pin p hp;exact⟨a1,by rw[aM (m.pn p hp)];exact a2,a3⟩
 ·by_cases hb:b=e
  ·subst hb;rw[aP] at q;cases q;exact XO.mk obj
  ·rw[aM hb] at q;exact(I.hok b o q).stay (λc u _ z=>z) (λc z=>by rw[aM (ne c _ z)];exact z) λc xs z=>by rw[aM (ne c _ z)];exact z
theorem goes{M:Model}{A:Around}{E:Value->Shared->Prop}{i:Nat}{n:Str}{pos:Pos}{Q:Unit->Shared->Prop}(I:Inv X pins σ H s)(hN:X.N.Nodup)(hi:X.N[i]?=some n)(hk:X.env.kindOf n=some .local)
  (h:∀ s',Inv X pins (σ.set i none) H s'->Q () s'):wpAny M A (do bindName X.env n .none;unbindBehindTheSuite X.env n pos) Q E s:=by
 obtain⟨m,hn,hl⟩:=id I.loc;have hcls:(X.env.scope.kind==.class||(X.env.scope.kind==.module&&X.env.locals != X.env.globals))=false:=by rw[I.ok.kind];rfl
 have hiσ:i<σ.length:=by rw[I.len];exact(Zar.mp hi).1
 have cne:=I.cne;refine wpAny_nameGoes_keeps hk hn hcls λh' v hn' hs=>?_;obtain⟨oL,_,_,hoL,_⟩:=id hn;have lo:∀ b o,X.s₀.heap.get? b=some o->b≠X.env.locals:=λb o e=>ZaC (Zah (Zaj e) I.ok.above);refine h _ ⟨I.ok,I.os,I.bare,⟨λb o e n hb hx=>(hs.2 b (lo b o e)).trans (I.base.keep b o e n hb hx),λb o e n hb hx=>?_,I.base.free,λb o e hx=>?_,I.base.tups,I.base.frzs,I.base.tbls⟩,⟨_,hn',λj y v' e1 e2 e3=>?_⟩,λy c e=>?_,I.free,I.freeC,λp hp=>?_,λb ob e=>?_,by simpa using I.len⟩
 ·obtain⟨sl,e1⟩:=I.base.slot b o e n hb hx;exact⟨sl,(hs.2 b (lo b o e)).trans e1⟩
 ·obtain⟨o',e1⟩:=I.base.there b o e hx;exact⟨o',(hs.2 b (lo b o e)).trans e1⟩
 ·by_cases hj:j=i
  ·subst hj;rw[ZaE hiσ] at e2;cases e2
  ·rw[Zac (ZaS hj)] at e2;obtain⟨u',r',q⟩:=hl j y v' e1 e2 e3;refine⟨u',r',?_⟩;rcases q with⟨k,e⟩|⟨k,c,e,z⟩
   ·refine .inl ⟨k,?_⟩;have:y≠n:=λe=>hj (sy hN e1 (e▸hi));simp[this,e]
   ·exact .inr ⟨k,c,e,z.sameBut hs (cne y c e)⟩
 ·obtain⟨w',z⟩:=I.cell y c e;exact⟨w',z.sameBut hs (cne y c e)⟩
 ·obtain⟨e,n,ne,nf,dd⟩:=I.pin p hp;exact⟨(hs.2 p.1 ne).trans e,n,ne,nf,dd⟩
 ·refine(I.hok b ob e).stay (λc w' hc q=>(hs.2 c ?_).trans q) (λ_ q=>q) λ_ _ q=>q;rintro rfl;rcases hc with rfl|hc
  ·rw[I.free] at e;cases e
  ·rw[I.free] at hc;cases hc
end
structure Catch(K:PySem.W.Frag)(T:Addr):Prop where
 cls:∃ oc od cd sl,K.lookup T=some ⟨oc,od,.cls cd,sl⟩
 nt:PySem.W.instIn K (.ref T) (.type "tuple")=some false
 be:PySem.W.subIn K (.ref T) (.type "BaseException")=some true
theorem caught{K:PySem.W.Frag}{M:Model}{A:Around}{E:Value->Shared->Prop}{s:Shared}{e C T:Addr}{oe:Obj}{b:Bool}{Q:Bool->Shared->Prop}(X:K.In s.heap)(Y:Catch K T)(he:s.heap.get? e=some oe)(hc:oe.cls=.ref C)
  (hb:PySem.W.subIn K (.ref C) (.ref T)=some b)(h:Q b s):wpAny M A (excMatches (.ref e) (.ref T)) Q E s:=by
 obtain⟨oc,od,cd,sl,hT⟩:=Y.cls;have L1:=PySem.W.looks_instIn (M:=M) X Y.nt;have L2:=PySem.W.looks_subIn (M:=M) X Y.be;have L3:=PySem.W.looks_subIn (M:=M) X hb;have hT':=X _ _ hT;unfold excMatches;refine Zab (L1.here ?_);obtain⟨hp,g,dr,tk,os⟩:=s;repeat (first|with_reducible refine wpAny_loadPart_at he ?_|with_reducible refine wpAny_loadPart_at hT' ?_|with_reducible refine L2.at ?_|with_reducible refine L3.at ?_|wp_step)
 rw[hc];refine L3.at ?_;cases b<;>(wp_walk;exact h)
noncomputable abbrev THs:=Value->Option Addr->TS
def PHs(X:Cx)(hs:List ExceptHandler)(th:THs):Prop:=∀ (pins:List (Addr×Obj)) (s:Shared) (σ:St) (H:Hp) (D:Ends) (e:Addr) (C:Value) (d:Option Addr),Inv X pins σ H s->Fly X pins H s.heap e C d->th C d D σ H ->
 wpAny (model X.prog X.w) X.A (handleBy (.ref e) X.env hs) (SP X pins D) X.xe s
def Ends.gone(D:Ends)(i:Nat):Ends:={ nx:=λσ H=>D.nx (σ.set i none) H,rt:=D.rt,bk:=λσ H=>D.bk (σ.set i none) H,ct:=λσ H=>D.ct (σ.set i none) H }
def TF:THs:=λ_ _ _ _ _=>False
def hAs(K:PySem.W.Frag)(T:Addr)(i:Nat)(ts:TS)(rest:THs):THs:=λC d D σ H=>∃ Ca b,C=.ref Ca/\PySem.W.subIn K (.ref Ca) (.ref T)=some b /\
 if b=true then ∀ a,H a=none->ts (Ends.gone D i) (σ.set i (some (.ref a))) (upd H a (XO a Ca d)) else rest C d D σ H
section
variable{X:Cx}{T:Addr}{x n:Str}{np pos:Pos}{b₀:Stmt}{suite body:List Stmt}{ts:TS}{rest:List ExceptHandler}{tr:THs}{i:Nat}
theorem Rv:PHs X [] TF:=λ_ _ _ _ _ _ _ _ _ _ h=>h.elim
theorem TJ(hg:Gl X x)(hm:X.mg x=some (.ref T))(Y:Catch X.K T)(hN:X.N.Nodup)(hi:X.N[i]?=some n)(hk:X.env.kindOf n=some .local)(hs:∀ ev,PSs (Cx.hand X ev λ_ _=>False) (b₀::suite) ts)(hr:PHs X rest tr)
  (hd:(x==("__debug__":Str))=false:=by decide):PHs X (.ExceptHandler (some (.Name x np)) (some n) (b₀::suite) pos::rest) (hAs X.K T i ts tr):=by
 intro pins s σ H D e C d I fl h;obtain⟨Ca,b,rfl,hb,h⟩:=h;obtain⟨m,nh,oe,vs,he,hc,hrest⟩:=id fl;refine wpAny_handleBy_cons (codeAny_handlers_test (oG (X:=Cx.hand X (.ref e) X.xe) (Inv.hand I (.ref e) X.xe) hg hm ?_ hd)) (by intro q;cases q)
 refine caught I.kIn Y he hc hb ?_;cases b with
 |false=>exact hr pins s σ H D e _ d I fl h
 |true=>
  refine codeAny_handlers_suite_as (ou I fl λs1 I1 f1=>?_);refine lg (Inv.track I1 f1) hN hi (.inl hk) (v:=.ref e) rfl (λs2 I2=>?_) (.inr hk);refine ZaG (hs (.ref e) pins s2 _ _ (Ends.gone D i) (Inv.hand I2 (.ref e) λ_ _=>False) (h e nh)) (λf s3 q=>?_) λ_ _ z=>z.elim
  ·cases f with
   |next=>obtain⟨σ',H',J,q⟩:=q;exact goes (Inv.xH I.ok J) hN hi hk λs4 J4=>⟨_,H',J4,q⟩
   |brk=>obtain⟨σ',H',J,q⟩:=q;exact goes (Inv.xH I.ok J) hN hi hk λs4 J4=>⟨_,H',J4,q⟩
   |cont=>obtain⟨σ',H',J,q⟩:=q;exact goes (Inv.xH I.ok J) hN hi hk λs4 J4=>⟨_,H',J4,q⟩
   |ret u=>obtain⟨v,σ',H',J,r,q⟩:=q;exact goes (Inv.xH I.ok J) hN hi hk λs4 J4=>⟨v,_,H',J4,r,q⟩
def Pz(X:Cx)(body:List Stmt)(tb:XK->TS):Prop:=∀ (pins:List (Addr×Obj)) (σ:St) (E:XK) (xe:Value->Shared->Prop),(∀ (H:Hp) (s:Shared) (ev:Value) (s':Shared),Inv X pins σ H s->CXS X.prog X.w X.stack H s E ev s'->xe ev s') ->
 ∀ (s:Shared) (H:Hp) (D:Ends),Inv X pins σ H s->tb E D σ H->wpAny (model X.prog X.w) X.A (execs body X.env) (SP X pins D) xe s
def TQ(tb:XK->TS)(th:THs):TS:=λD σ H=>tb (λC d H'=>th C d D σ H') D σ H
theorem Rw{h₀:ExceptHandler}{hs:List ExceptHandler}{tb:XK->TS}{th:THs}(hst:X.stack=X.env::X.outer)(hf:X.env.frame=some X.env.locals)(hb:Pz X body tb)(hh:PHs X (h₀::hs) th):PS X (.Try body (h₀::hs) [] [] pos) (TQ tb th):=by
 intro pins s σ H D I h;refine wpAny_Try_except (ZaG (hb pins σ _ (FlS X pins σ λC d H'=>th C d D σ H') (λH s ev s' I c=>FlS.Fb I c) s H D I h) (λf s1 q=>?_) λev s1 q=>?_)
 ·cases f with
  |next=>exact Zal q
  |brk=>exact q
  |cont=>exact q
  |ret u=>exact q
 ·obtain⟨e,C,d,H',rfl,I1,f1,q⟩:=q;exact zP I1 hst hf f1 λs2 I2 f2 _=>ou I2 f2 λs3 I3 f3=>hh pins s3 σ H' D e C d I3 f3 q
end
def TV(X:Cx)(e:Expr)(te:XK->TE):Prop:=∀ (pins:List (Addr×Obj)) (σ:St) (E:XK) (xe:Value->Shared->Prop),(∀ (H:Hp) (s:Shared) (ev:Value) (s':Shared),Inv X pins σ H s->CXS X.prog X.w X.stack H s E ev s'->xe ev s') ->
 ∀ (s:Shared) (H:Hp) (Q:VK),Inv X pins σ H s->te E σ H Q->wpAny (model X.prog X.w) X.A (eval e X.env) (EP X pins σ Q) xe s
section
variable{X:Cx}{x:Str}{pos:Pos}{e:Expr}{te:XK->TE}
theorem Rx{xe:Value->Shared->Prop}{pins:List (Addr×Obj)}{D:Ends}{st:Stmt}{s:Shared}(h:wpAny (model X.prog X.w) X.A (exec st X.env) (SP X pins D) xe s):wpAny (model X.prog X.w) X.A (execs [st] X.env) (SP X pins D) xe s:=by
 refine wpAny_execs_cons (thn h λf s1 q=>?_);cases f with
 |next=>exact wpAny_execs_nil q
 |ret v=>exact q
 |brk=>exact q
 |cont=>exact q
theorem Hm(he:TV X e te)(hs:swapsWith e none pos.line X.env=pure false:=by rfl):Pz X [.Expr e pos] (λE=>qz (te E)):=by
 intro pins σ E xe hp s H D I h;exact Rx (wpAny_Expr_any (thn (he pins σ E xe hp s H _ I h) λv s1 ⟨x,H1,I1,r1,q1⟩=>⟨σ,H1,I1,q1⟩) I.quiet hs)
end
def XFs(K:PySem.W.Frag)(F:Hp)(d:Option Addr)(l:List (Str×PV)):Prop:=(d=none/\l=[])\/∃ dx xs,d=some dx/\l≠[]/\F dx=some (.xd xs)/\xs.map (·.1)=l.map (·.1)/\∀ (j:Nat) x p,xs[j]?=some x->l[j]?=some p->Rep K F x.2 p.2
def XRS(K:PySem.W.Frag):Hp->Value->Option Addr->PV->Prop:=λF ev d z=>∃ c l Ca,z=.exc c l/\ev=.ref Ca/\XNm K Ca c/\XFs K F d l
noncomputable abbrev Cq(C:Cg):Cg:=⟨C.toCf,XR0⟩
section
variable{K:PySem.W.Frag}{t:TA}{f:Fn (List PV)}
def PB:PV->Sn:=λ_ _=>none
def PJ(K:PySem.W.Frag)(c t:Str)(b:Bool):Prop:=∃ Ca T,nsIn K mainGlobals c=some (some (.ref Ca))/\nsIn K mainGlobals t=some (some (.ref T))/\PySem.W.subIn K (.ref Ca) (.ref T)=some b
def PK(i:Nat):Option Out->Option Out
 |some (.nx ρ)=>some (.nx (ρ.set i none))
 |some (.bk ρ)=>some (.bk (ρ.set i none))
 |some (.ct ρ)=>some (.ct (ρ.set i none))
 |o=>o
def Nh(sub:Str->Option Bool)(i:Nat)(suite:Sn)(rest:PV->Sn):PV->Sn:=λz ρ=>match z with
 |.exc c _=>(match sub c with
  |some true=>PK i (suite (ρ.set i (some (.sh z))))
  |some false=>rest z ρ
  |none=>none)
 |_=>none
theorem RE.gone{Cc:Cf}{F H:Hp}{σ:St}{ρ:Rho}(h:RE K Cc F H σ ρ)(i:Nat):RE K Cc F H (σ.set i none) (ρ.set i none) where
 rb:=h.rb
 len:=by simp[h.len]
 sh:=λj q e=>by
  rcases get_set e with⟨e1,e2⟩|⟨e1,e2⟩
  ·cases e2
  ·obtain⟨w,e3,e4⟩:=h.sh j q e2;exact⟨w,by rw[Zac e1];exact e3,e4⟩
 ow:=λj q e=>by
  rcases get_set e with⟨e1,e2⟩|⟨e1,e2⟩
  ·cases e2
  ·obtain⟨w,e3,e4⟩:=h.ow j q e2;exact⟨w,by rw[Zac e1];exact e3,e4⟩
 dis:=λj k q q' a e e' f f'=>by
  rcases get_set e with⟨e1,e2⟩|⟨e1,e2⟩
  ·cases e2
  ·rcases get_set e' with⟨e1',e2'⟩|⟨e1',e2'⟩
   ·cases e2'
   ·rw[Zac e1] at f;rw[Zac e1'] at f';exact h.dis j k q q' a e2 e2' f f'
 dd:=let⟨P,d⟩:=h.dd;⟨P,d.own,d.dis,λj k q b z e f=>by
   rcases get_set e with⟨e1,e2⟩|⟨e1,e2⟩
   ·cases e2
   ·rw[Zac e1] at f;exact d.ow j k q b z e2 f,λj q e=>by
   rcases get_set e with⟨e1,e2⟩|⟨e1,e2⟩
   ·cases e2
   ·obtain⟨w,e3,e4⟩:=d.dp j q e2;exact⟨w,by rw[Zac e1];exact e3,e4⟩⟩
end
def spI(Ca:Addr)(fs:List Str):Sp:=λvs H Q _=>∃ e args,vs=.ref e::args/\args.length=fs.length/\H e=some (XN e Ca none) /\
 ∀ dx H',H dx=none->H' e=some (XN e Ca (some dx))->H' dx=some (XD dx (fs.zip args))->(∀ b,b≠e->b≠dx->H' b=H b)->Q .non H'
section
variable{K:PySem.W.Frag}{C:Cg}{f:Fn (List PV)}
theorem MA.jh{ta:TA}{F H:Hp}{σ:St}{ρ:Rho}{D:Ends}{o:Out}{Q:List V->Hp->Prop}{k:List PV->Option Out}(h:MA K C ta f)(R:RE K C.toCf F H σ ρ)(hb:eE (f ρ) k=some o)(P:PO' K C F D o)
  (go:∀ l xs F1 H1,k l=some o->Up F H F1 H1->bz K F1 xs l->Q xs H1):ta σ H Q:=by
 rcases bR hb with⟨z,e,rfl⟩|⟨p,e,hk⟩
 ·exact h F H σ ρ Q _ R e P
 ·exact h F H σ ρ Q _ R e λxs F1 H1 u a=>go p xs F1 H1 hk u a
end
noncomputable abbrev CE(K:PySem.W.Frag)(E:XK)(io:Addr->Prop)(H0 F0:Hp):Cg:=⟨⟨io,True,H0,F0,E⟩,XRS K⟩
section
variable{K:PySem.W.Frag}{N:List Str}{vs:List V}{H:Hp}{Q:VK}{E:XK}{t:TS}{b:Sn}{m:List PV->Option (Res PV)}
theorem xJ{k n:Nat}(hk:N.length=k+n)(hm:∀ ps r,m ps=some r->ps.length=k/\fin (b (startR ps n))=some r)(h:spM K (XRS K) m vs H Q E)(hS:∀ (io:Addr->Prop) (H0 F0:Hp),(∀ a,¬io a)->MS K (CE K E io H0 F0) t b) :
  t { nx:=λ_ H'=>Q .non H',rt:=Q } (start N vs) H:=by
 obtain⟨ps,F,r,s,rp,e,P⟩:=h;obtain⟨hl,e⟩:=hm ps r e;have R:=lG (E:=E) (N:=N) (n:=n) s rp (by rw[rp.1,hl];exact hk)
 have up:∀ {F' H':Hp},aL F F'->RB ⟨λ_=>False,True,H,F,E⟩ F' H'->Up F H F' H':=λs' rb=>⟨s',λc o q=>rb.keep c o q id,rb.new,rb.sub⟩;have M:=hS (λ_=>False) H F (λ_ h=>h);cases ho:b (startR ps n) with
 |none=>rw[ho] at e;cases e
 |some o=>
  rw[ho] at e;refine M F H _ _ _ o R ho ?_;cases o with
  |nx ρ=>cases e;exact λF' H' σ s' R'=>P .non F' H' (up s' R'.rb) .non
  |rt p=>cases e;exact λv F' H' s' rb rv=>P v F' H' (up s' rb) rv
  |ex z=>cases e;exact λev d F' H' s' rb x=>P ev d F' H' (up s' rb) x
  |ro p=>cases e
  |rd p=>cases e
  |bk ρ=>cases e
  |ct ρ=>cases e
variable{C:Cg}{ta:TA}{f:Fn (List PV)}
theorem lL(h:MA K C ta f):MJ K C (aF K) (nu (spM K XR0 m) [] E0 ta) (cC m f):=by
 intro F H σ ρ Q r R e P;refine h.run R e P λl xs F1 H1 hk u a=>?_;refine⟨l,F1,r,u.fh,by rw[Zaz];exact a,hk,?_⟩
 cases r with
 |ok p=>exact λv F' H' u' rv=>P v F' H' (u.trans u') rv
 |ex z=>exact λe d F' H' u' x=>x.elim
end
section
variable{P:Program}{w:World}{K:PySem.W.Frag}{mg:Str->Option Value}{base:Heap}
theorem bw.okX{x:Str}{st:Stmt}{ps N:List Str}{k:Nat}{sp:Sp}(D:bw K mg x st ps)(S:bf N ps (aB st))(len:∀ vs H Q E,sp vs H Q E->vs.length=ps.length)
  (hbody:∀ (f:Addr) (cdv:Value) (A:Around) (outer:List Env) (s:Shared) (H:Hp) (vs:List V) (Q:VK) (E:XK),cB k (A.deeper (envOfC x (aB st) s.heap.objs.size f cdv))->sp vs H Q E ->
   ∃ t,PSs (cxX P w K mg base N x (aB st) f cdv A outer s H E) (aW st) t/\t { nx:=λ_ H'=>Q .non H',rt:=Q } (start N vs) H):ud P w K mg base x (k+1) ps sp:=by
 obtain⟨f,fd,e,F,b⟩:=D.ex;obtain⟨oc,od,kV,doc,pm,an,cdv,ct,osl,rfl,lk,hcd⟩:=F.ex;refine⟨f,_,e,F.kp,b,Jj lk hcd S len λA outer s H vs Q E hr hsp=>?_⟩;obtain⟨t,h,q⟩:=hbody f cdv A outer s H vs Q E hr hsp;exact⟨t,PSs.ofX (λe s' z=>leaves z) h,q⟩
end
section
variable{X:Cx}{k:Nat}{ps:List Str}{sp:Sp}{x:Str}{p pos:Pos}{e:Expr}{es:List Expr}{t:TA}{E:XK}
theorem uf(hx:gQ (CXS X.prog X.w) X E)(G:ud X.prog X.w X.K X.mg X.base x k ps sp)(hr:cB k X.A)(hg:Gl X x)(ha:PA X (e::es) t)(hdb:(x==("__debug__":Str))=false:=by decide)
  (he:starEach (e::es) X.env=(false,eval e X.env)::starEach es X.env:=by rfl)(hpl:(backTo pos (starEach es X.env)).any (·.1)=false:=by rfl):PE X (.Call (.Name x p) (e::es) [] pos) (nu sp [] E t):=by
 obtain⟨f,fd,e1,e2,e3,e4⟩:=G;exact DY e4 hr hg e1 e2 e3 .nil hx ha hdb he hpl
end
open PySem PySem.Spec PyProof.Rows PySem.Calls PySem.W Builtin Builtin.ObjectAttr
theorem Kf{prog:Program}{w:World}{A:Around}{E:Value->Shared->Prop}{s:Shared}{K:Frag}{x C:Addr}{ox:Obj}{od:Option Obj}{name:Str}{expr:Bool}{Q:Value->Shared->Prop}{v:Value}(X:K.In s.heap)(I:InstAt s.heap x ox C od)(hga:findIn K (.ref C) "__getattribute__"=some (some (.builtin "BaseException.__getattribute__")))
  (hgn:findIn K (.ref C) "__getattr__"=some none)(hb:subIn K (.ref C) (.type "BaseException")=some true)
  (hf:findObj K C od name=some (.value v))(hh:handedIn v=true)(h:Q v { s with toks:=s.toks+1 }):wpAny (model prog w) A (getAttr (.ref x) name expr) Q E s:=by
 obtain⟨hp,g,d,t,os⟩:=s;have L0:=I.type (M:=model prog w);have L1:=looks_findIn (M:=model prog w) X hga;have L2:=looks_findIn (M:=model prog w) X hgn;have L3:=looks_find (M:=model prog w) X I hf;have LB:Looks (model prog w) hp (isInstance (.ref x) (.type "BaseException")) true:=L0.andThen (looks_subIn X hb);have f3:=Za8.ga.bind (.ref x);have hx0:(expr&&onTheHeap (Value.builtin "BaseException.__getattribute__"))=false:=by cases expr<;>rfl
 have hx2:(Value.builtin "BaseException.__getattribute__"==Value.builtin "object.__getattribute__")=false:=by decide +kernel
 have hx1:(onTheHeap (Value.ref C)&&Value.builtin "BaseException.__getattribute__"==Value.builtin "object.__getattribute__")=false:=by rw[hx2];rfl
 unfold getAttr getAttrBy;refine Zab (wpAny_mkText (wpAny_holding (Zab (L0.at (Zab (L1.at ?_))))));dsimp only;repeat (any_goals (first|assumption|with_reducible refine L2.at ?_|wp_step))
 have ha:argsOk "BaseException.__getattribute__" ⟨[.ref x,.str name t],[]⟩:=by unfold argsOk;kernel_rfl
 refine codeAny_call_builtin Za8.ga.plain PySem.F.entry_bexc_ga (check_slot (i:="BaseException.__getattribute__") (owner:="BaseException") (n:="__getattribute__") (by decide +kernel) (by decide +kernel) LB ha ?_)
 unfold Builtin.«object.__getattribute__»;repeat (any_goals (first|assumption|with_reducible refine L0.at ?_|with_reducible refine L3.at ?_|wp_step))
 show wpAny _ _ (handedOut v) _ _ _
 rw[handedOut_of hh];exact Zal h
theorem CN{prog:Program}{w:World}{A:Around}{E:Value->Shared->Prop}{s:Shared}{K:Frag}{x C:Addr}{ox:Obj}{od:Option Obj}{Q:Option Value->Shared->Prop}(X:K.In s.heap)(I:InstAt s.heap x ox C od)(hga:findIn K (.ref C) "__getattribute__"=some (some (.builtin "BaseException.__getattribute__")))
  (hgn:findIn K (.ref C) "__getattr__"=some none)(hb:subIn K (.ref C) (.type "BaseException")=some true)
  (hf:findObj K C od "__class__"=some (.bind (.builtin "getset_descriptor.__get__") (.builtin "object.__class__")))(hm:mroIn K C (.type "object")=some true)
  (h:Q (some (.ref C)) { s with toks:=s.toks+1 }):wpAny (model prog w) A (getAttr? (.ref x) "__class__") Q E s:=by
 obtain⟨hp,g,d,t,os⟩:=s;have L0:=I.type (M:=model prog w);have L1:=looks_findIn (M:=model prog w) X hga;have L2:=looks_findIn (M:=model prog w) X hgn;have L3:=looks_find (M:=model prog w) X I hf;have LB:Looks (model prog w) hp (isInstance (.ref x) (.type "BaseException")) true:=L0.andThen (looks_subIn X hb);have f3:=Za8.ga.bind (.ref x);have hx2:(Value.builtin "BaseException.__getattribute__"==Value.builtin "object.__getattribute__")=false:=by decide +kernel
 have hx1:(onTheHeap (Value.ref C)&&Value.builtin "BaseException.__getattribute__"==Value.builtin "object.__getattribute__")=false:=by rw[hx2];rfl
 unfold getAttr? getAttrBy?;repeat (any_goals (first|assumption|with_reducible refine L0.at ?_|with_reducible refine L1.at ?_|with_reducible refine L2.at ?_|wp_step))
 have ha:argsOk "BaseException.__getattribute__" ⟨[.ref x,.str "__class__" t],[]⟩:=by unfold argsOk;kernel_rfl
 refine codeAny_call_builtin Za8.ga.plain PySem.F.entry_bexc_ga (check_slot (i:="BaseException.__getattribute__") (owner:="BaseException") (n:="__getattribute__") (by decide +kernel) (by decide +kernel) LB ha ?_)
 unfold Builtin.«object.__getattribute__»;repeat (any_goals (first|assumption|with_reducible refine L0.at ?_|with_reducible refine L3.at ?_|wp_step))
 refine class_get (ox:=ox) (od:=od) X I hm ?_;repeat (any_goals (first|assumption|wp_step))
structure XI(K:Frag)(C:Addr):Prop where
 ga:findIn K (.ref C) "__getattribute__"=some (some (.builtin "BaseException.__getattribute__"))
 gn:findIn K (.ref C) "__getattr__"=some none
 be:subIn K (.ref C) (.type "BaseException")=some true
 hd:hasDictIn K C=true
 cl:findIn K (.ref C) "__class__"=some (some (.builtin "object.__class__"))
 sp:specialIn K (.builtin "object.__class__") "__get__"=some (some (.builtin "getset_descriptor.__get__"))
 tk:takesIn K (.builtin "object.__class__")=some true
 ob:mroIn K C (.type "object")=some true
theorem Kg{K:Frag}{x D:Addr}{ox:Obj}{od:Option Obj}(Y:XI K D):KitX K (.ref x) (.ref D) (λh=>InstAt h x ox D od) where
 ty:=λ_ _ _ I=>I.type
 it:=λ_ _ X _=>by
  obtain⟨cdD,hcD,_⟩:=any_some Y.hd;unfold clsIn at hcD;split at hcD
  ·rename_i c' d' cd' sl' ho;intro A' Q' E' s' k q;unfold isType loadHead;exact Zab (wpAny_loadPart (k _ _ (X _ _ ho)) (Zal q))
  ·cases hcD
 ne:=λh tp dd its n sl X htp=>by
  obtain⟨cdD,hcD,_⟩:=any_some Y.hd;refine Bool.eq_false_iff.mpr λq=>?_;have e:D=tp:=ZaN (beq_iff_eq.mp q);subst e;unfold clsIn at hcD;split at hcD
  ·rename_i c' d' cd' sl' ho;have z:=(X _ _ ho).symm.trans htp;cases z
  ·cases hcD
 ca:=λX I k=>CN X I Y.ga Y.gn Y.be (by
  obtain⟨cd,hc,_⟩:=any_some Y.hd;unfold findObj;rw[hc,Option.bind_some,Y.cl,Option.bind_some];simp[Y.sp,Y.tk]) Y.ob k
structure KCl(K:Frag)(T:Addr):Prop where
 cls:∃ oc od cd sl,K.lookup T=some ⟨oc,od,.cls cd,sl⟩
 ty:typeIn K (.ref T)=some (.type "type")
theorem aY{K:Frag}{t:Value}{T:Addr}{b:Bool}(Y:KCl K T)(hs:subIn K t (.ref T)=some b)(hb:t=.ref T->b=true):kitOne K t (.ref T)=some b:=by
 unfold kitOne;split
 ·rename_i e;rw[hb (beq_iff_eq.mp e)]
 ·obtain⟨oc,od,cd,sl,hl⟩:=Y.cls;unfold kitCls;dsimp only;rw[Zae (by unfold clsIn;rw[hl,Y.ty];rfl)]
  exact hs
theorem qb{K:Frag}{C:Addr}{T:String}{b:Bool}(hm:kitMeta T=true)(hs:subIn K (.ref C) (.type T)=some b):kitOne K (.ref C) (.type T)=some b:=by
 unfold kitOne;rw[Zaf (by simp)]
 unfold kitCls;dsimp only;rw[Zae hm];exact hs
def XAt(H:Hp)(a C:Addr):Prop:=H a=some (XO a C none)\/∃ dx fs,H a=some (XO a C (some dx))/\H dx=some (.xd fs)
theorem Rep.xat{K:PySem.W.Frag}{F:Hp}{v:V}{c:Str}{l:List (Str×PV)}(h:Rep K F v (.exc c l)):∃ a Ca,v=.ref a/\XNm K Ca c/\XAt F a Ca:=by
 cases h with
 |exc nm h1 h2=>exact⟨_,_,rfl,nm,.inr ⟨_,_,h1,h2⟩⟩
 |exc0 nm h1=>exact⟨_,_,rfl,nm,.inl h1⟩
def Ry(K:PySem.W.Frag)(T:V)(Tv:Value):List V->Hp->VK->Prop:=λxs H Q=>∃ x b,xs=[x,T]/\((∃ a C,x=.ref a/\XAt H a C/\XI K C/\PySem.W.kitOne K (.ref C) Tv=some b) \/
 (x=.non/\PySem.W.kitOne K (.type "NoneType") Tv=some b))/\Q (.bl b) H
section
variable{X:Cx}{pins:List (Addr×Obj)}{σ:St}{H:Hp}{s:Shared}
theorem XO.inst(I:Inv X pins σ H s){a C dx:Addr}{fs:List (Str×V)}(h:H a=some (XO a C (some dx)))(hd:H dx=some (.xd fs)):∃ ox od mA,PySem.W.InstAt s.heap a ox C (some od)/\s.heap.Ns1 dx mA/\(∀ f,kJ (fs.lookup f) (mA f)) /\
  ∃ vs:Array Value,s.heap.get? a=some { cls:=.ref C,dict:=some dx,data:=.fields vs }:=by
 obtain⟨vs,e⟩:=XO.at I h;obtain⟨mA,n,r⟩:=I.hok _ _ hd;obtain⟨od,ho,hl⟩:=pQ n;exact⟨_,od,mA,⟨e,rfl,rfl,ho⟩,n,r,vs,e⟩
theorem XAt.inst(I:Inv X pins σ H s){a C:Addr}(h:XAt H a C):∃ ox od,PySem.W.InstAt s.heap a ox C od:=by
 rcases h with h|⟨dx,fs,h1,h2⟩
 ·obtain⟨vs,e⟩:=XO.at I h;exact⟨_,none,e,rfl,rfl,trivial⟩
 ·obtain⟨ox,od,mA,J,_⟩:=XO.inst I h1 h2;exact⟨ox,some od,J⟩
theorem gZ{T:V}{Tv:Value}(hT:RelV T Tv)(hu:∀ u,RelV T u->u=Tv):lq X (.builtin "isinstance") (Ry X.K T Tv):=by
 intro pins s σ H xs us Q I rv h;obtain⟨x,b,rfl,h,q⟩:=h;obtain⟨u,v,rfl,ru,rv'⟩:=rv.two;obtain rfl:=hu v rv';have fin:∀ tk,EP X pins σ Q (.bool b) { s with toks:=tk }:=λtk=>⟨.bl b,H,I.tok _,rfl,q⟩;rcases h with⟨a,C,rfl,ha,Y,e⟩|⟨rfl,e⟩
 ·cases ru;obtain⟨ox,od,J⟩:=ha.inst I;exact ZaP (Kg Y) I.kIn J e (λz=>nomatch z) fin
 ·cases ru;exact ZaP PySem.W.kitx_none I.kIn True.intro e (λz=>nomatch z) fin
def Kh(K:PySem.W.Frag)(te:TE)(f:Str):TE:=λσ H Q=>te σ H λx H1=>∃ a C dx fs v,x=.ref a/\H1 a=some (XO a C (some dx))/\H1 dx=some (.xd fs)/\XI K C/\PySem.W.findIn K (.ref C) f=some none/\fs.lookup f=some v/\Q v H1
theorem Ni{e:Expr}{te:TE}{f:Str}{pos:Pos}(he:PE X e te)(hb:attributeBase e f X.env (eval e X.env)=eval e X.env):PE X (.Attribute e f pos) (Kh X.K te f):=by
 intro pins s σ H Q I h;refine DX hb (thn (he pins s σ H _ I h) ?_);rintro u s1 ⟨x,H1,I1,rx,a,C,dx,fs,v,ex,ea,ed,Y,n,l,q⟩;subst ex;obtain rfl:u=Value.ref a:=rx;obtain⟨ox,od,mA,J,n1,r,vs,hx⟩:=XO.inst I1 ea ed;have rf:=r f;rw[l] at rf;cases hv:mA f with
 |none=>rw[hv] at rf;exact rf.elim
 |some u'=>
  rw[hv] at rf;have rf:RelV v u':=rf;obtain⟨od2,ho2,hl2⟩:=pQ n1;have J2:PySem.W.InstAt s1.heap a _ C (some od2):=⟨hx,rfl,rfl,ho2⟩;exact Kf I1.kIn J2 Y.ga Y.gn Y.be (PySem.W.findObj_own Y.hd n rfl (by rw[hl2,hv])) (vB rf) ⟨v,H1,I1.tok _,rf,q⟩
end
section
variable{K:PySem.W.Frag}{C:Cg}{te:TE}{f:Fn PV}
def vg(sub:Str->Option Bool)(no:Bool)(f:Fn PV):Fn PV:=λρ=>bnd (f ρ) λp=>match p with
 |.exc c _=>(sub c).map λb=>.ok (.bl b)
 |.non=>some (.ok (.bl no))
 |_=>none
theorem Rep.Nj{F:Hp}{v:V}{c:Str}{x:Str×PV}{l:List (Str×PV)}(h:Rep K F v (.exc c (x::l))):∃ a Ca dx xs,v=.ref a/\XNm K Ca c/\F a=some (XO a Ca (some dx))/\F dx=some (.xd xs)/\xs.map (·.1)=(x::l).map (·.1)/\∀ (j:Nat) y p,xs[j]?=some y->(x::l)[j]?=some p->Rep K F y.2 p.2:=by
 generalize hq:PV.exc c (x::l)=q at h
 cases h with
 |exc nm h1 h2 h3 h4=>cases hq;exact⟨_,_,_,_,rfl,nm,h1,h2,h3,h4⟩
 |exc0 nm h1=>cases hq
 |_=>cases hq
def zR(K:PySem.W.Frag)(c:Str)(Tv:Value)(b:Bool):Prop:=∃ Ca,nsIn K mainGlobals c=some (some (.ref Ca))/\XI K Ca/\PySem.W.kitOne K (.ref Ca) Tv=some b
theorem oA{T:V}{Tv:Value}{sub:Str->Option Bool}{no:Bool}(hs:∀ c b,sub c=some b->zR K c Tv b)(hno:PySem.W.kitOne K (.type "NoneType") Tv=some no)(h:MJ K C (aH K) te f) :
  MJ K C (aF K) (tCB (Ry K T Tv) (eY te (eY (tC T) oJ))) (vg sub no f):=by
 intro F H σ ρ Q r R e P;refine h.run R e P λp v F1 H1 hk u a=>?_;show Ry K T Tv [v,T] H1 Q
 split at hk
 ·rename_i c l;obtain⟨b,hb,rfl⟩:=ZaX.mp hk;obtain⟨Ca,n1,Y,k⟩:=hs c b hb;obtain⟨a',Ca',rfl,nm,h1⟩:=Rep.xat a;rw[nm.ns] at n1;cases n1;exact⟨_,b,rfl,.inl ⟨a',Ca,rfl,h1,Y,k⟩,P _ F1 H1 u .bl⟩
 ·cases hk;cases a;exact⟨_,no,rfl,.inr ⟨rfl,hno⟩,P _ F1 H1 u .bl⟩
 ·cases hk
def zT(names:Str->Bool)(g:Str)(f:Fn PV):Fn PV:=λρ=>bnd (f ρ) λp=>match p with
 |.exc c (x::l)=>if names c=true then((x::l).lookup g).map .ok else none
 |_=>none
theorem jY{K:PySem.W.Frag}{F:Hp}{g:Str}:∀ {xs:List (Str×V)}{l:List (Str×PV)}{p:PV},xs.map (·.1)=l.map (·.1)->(∀ (j:Nat) y q,xs[j]?=some y->l[j]?=some q->Rep K F y.2 q.2)->l.lookup g=some p->∃ v,xs.lookup g=some v/\Rep K F v p
 |[],[],_,_,_,h=>by simp at h
 |[],_::_,_,h,_,_=>by simp at h
 |_::_,[],_,h,_,_=>by simp at h
 |(k,v)::xs,(k',q)::l,p,h,r,e=>by
  simp only[ZaA,ZbF] at h;obtain⟨rfl,h⟩:=h;have r0:=r 0 (k,v) (k,q) rfl rfl;by_cases hg:(g==k)=true
  ·simp only[List.lookup,hg] at e ⊢;cases e;exact⟨v,rfl,r0⟩
  ·rw[Zbh] at hg;simp only[List.lookup,hg] at e ⊢;exact jY h (λj y q a b=>r (j+1) y q (by simpa using a) (by simpa using b)) e
theorem Fd{names:Str->Bool}{g:Str}(hs:∀ c,names c=true->∃ Ca,nsIn K mainGlobals c=some (some (.ref Ca))/\XI K Ca/\PySem.W.findIn K (.ref Ca) g=some none)(h:MJ K C (aF K) te f):MJ K C (aF K) (Kh K te g) (zT names g f):=by
 intro F H σ ρ Q r R e P;refine h.run R e P λp v F1 H1 hk u a=>?_;split at hk
 ·rename_i c x l;split at hk
  ·rename_i hc;obtain⟨p,hp,rfl⟩:=ZaX.mp hk;obtain⟨Ca,n1,Y,k⟩:=hs c hc;obtain⟨a',Ca',dx,xs,rfl,nm,h1,h2,h3,h4⟩:=Rep.Nj a;rw[nm.ns] at n1;cases n1;obtain⟨v,hv,rv⟩:=jY h3 h4 hp;exact⟨a',Ca,dx,xs,v,rfl,u.fh _ _ h1,u.fh _ _ h2,Y,k,hv,P v F1 H1 u rv⟩
  ·cases hk
 ·cases hk
end
section
variable{X:Cx}{x:Str}{T:Addr}{pos:Pos}
theorem vU(hg:Gl X x)(h:X.mg x=some (.ref T))(hd:(x==("__debug__":Str))=false:=by decide):PE X (.Name x pos) (tC (.ref T)):=wD hg h rfl hd
end
theorem xK{K:PySem.W.Frag}{C:Addr}{c:Str}{oc:Value}{dd:Option Addr}{cd:ClassData}{sl:Array (Option Value)}(n:nsIn K mainGlobals c=some (some (.ref C)))(l:K.lookup C=some ⟨oc,dd,.cls cd,sl⟩)(h:cd.name=c):XNm K C c:=
 ⟨n,cd,by unfold PySem.W.clsIn;rw[l],h⟩
section
variable{P:Program}{w:World}{K:PySem.W.Frag}{mg:Str->Option Value}{base:Heap}
theorem mZ{N:List Str}{x:Str}{sc:Scope}{f:Addr}{cdv:Value}{A:Around}{outer:List Env}{s0:Shared}{H0:Hp}{E:XK} :
  ∀ (pins:List (Addr×Obj)) (σ:St) (H:Hp) (s:Shared) (e:Addr) (C:Value) (d:Option Addr),Inv (cxX P w K mg base N x sc f cdv A outer s0 H0 E) pins σ H s->Fly (cxX P w K mg base N x sc f cdv A outer s0 H0 E) pins H s.heap e C d->E C d H ->
   (cxX P w K mg base N x sc f cdv A outer s0 H0 E).xe (.ref e) s:=
 λpins σ H s e C d I fl h=>⟨pins,σ,e,C,d,H,rfl,I.fO,⟨⟨fl.own.sz,fl.own.loc,fl.own.cl,fl.own.pn⟩,fl.nh,let⟨oe,vs,a1,a2,a3,a4,a5,a6,a7⟩:=fl.ob;⟨oe,vs,a1,a2,a3,a4,a5,a6,a7.imp id λ⟨T,oT,ts,b1,b2,b3,b4⟩=>⟨T,oT,ts,b1,b2,⟨b3.sz,b3.loc,b3.cl,b3.pn⟩,b4⟩⟩⟩,h⟩
end
section
variable{X:Cx}{pos:Pos}{e:Expr}
theorem zU(K:PySem.W.Frag){f:Str}{te:TE}(hK:X.K=K)(he:PE X e te)(hb:attributeBase e f X.env (eval e X.env)=eval e X.env):PE X (.Attribute e f pos) (Kh K te f):=hK▸Ni he hb
end
open PySem PySem.Spec PyProof PyProof.Rows
def nA(f g:Sn):Sn:=λρ=>match f ρ with
 |some (.nx ρ')=>g ρ'
 |_=>none
open PySem PySem.Spec PyProof.Rows PySem.Calls Builtin Builtin.ObjectAttr
section
variable{h:Heap}{g:Array GenState}{d:Drawn}{t:Nat}{os:OsState}
variable{nm q:Str}{C N:Addr}{bs bm:List Value}{hdct:Bool}{sn:List Str}{sub:List Value}{ab:Bool}{col:Option Bool}{dd:Option Addr}{k0 k1 k2 k3 k5:Option Value}
variable{prog:Program}{w:World}{A:Around}{R:Result->Shared->Prop}{K:PySem.W.Frag}
theorem zV{M:Model}{E:Value->Shared->Prop}{e:Addr}{oe:Obj}{Q:Unit->Shared->Prop}(hV:bm.contains (.type "ValueError")=true)
  (hC:h.get? C=some (excClassObj nm q C N bs bm hdct sn sub ab col dd k0 k1 k2 k3 k5 "ValueError.__new__"))(he:h.get? e=some oe)(hc:oe.cls=.ref C)(hq:Q () ⟨h,g,d,t,os⟩) :
  wpAny M A (checkBuiltinCall "ValueError.__init__" ⟨[.ref e],[]⟩) Q E ⟨h,g,d,t,os⟩:=by
 have Fn:=ZaY;have hcont:(Value.ref C::bm).contains (.type "ValueError")=true:=by rw[ZaL,hV,Zbt]
 have hstar:=Fn.noStar;simp only[checkBuiltinCall,Fn.initKind,Fn.initSplit,Fn.initRow];repeat (first|(refine wpAny_loadPart_at he ?_;rw[hc])|refine wpAny_loadPart_at hC ?_|(refine wpAny_isSubtype_exc hC ?_;rw[hcont])|wp_step)
 exact hq
theorem Hn(X:K.In h)(hV:bm.contains (.type "ValueError")=true)(hA:bm.contains (.type "AttributeError")=false)(hN:bm.contains (.type "NameError")=false)
  (hC:h.get? C=some (excClassObj nm q C N bs bm hdct sn sub ab col dd k0 k1 k2 k3 k5 "ValueError.__new__"))
  (hi:PySem.W.findIn K (.ref C) "__init__"=some (some (.builtin "ValueError.__init__")))
  (hq:∀ h':Heap,(∀ b o,h.get? b=some o->h'.get? b=some o)->(∃ u,h'.get? (h.objs.size+1)=some (Ke C u none))->R (.ok (.ret (.ref (h.objs.size+1)))) ⟨h',g,d,t,os⟩) :
  codeAny (model prog w) A (.call (.ref C) ⟨[],[]⟩) R ⟨h,g,d,t,os⟩:=by
 have f1:=tc_lookup;have f2:=tc_bind (.ref C);have Fn:=ZaY;have hT:(⟨h,g,d,t,os⟩:Shared).TypeIs (.ref C) "type":=⟨_,hC,rfl⟩;refine codeAny_of_tree ?_;show wpAny _ _ (callAny (.ref C) _) _ _ _
 repeat (any_goals (first|assumption|with_reducible refine wpAny_loadPart_at hC ?_|wp_step))
 refine⟨rfl,?_⟩;refine codeAny_call_builtin_at (Code.quiet_builtin _ (by decide +kernel)) entry_typeCall (wpAny_check_type_call_sub hC ?_)
 repeat (first|with_reducible refine wpAny_loadPart_at hC ?_|with_reducible refine wpAny_madeBy_exc hC ?_|wp_step)
 refine codeAny_call_builtin_code (Code.quiet_builtin _ Fn.quiet) (Cv hV hC ?_);refine newX hV hA hN hC ?_ (Zbp _);show wpAny _ _ _ _ _ _
 have k:∀ b o,h.get? b=some o->((h.push { cls:=.type "tuple",data:=.seq ([]:List Value).toArray }).push (Ke C h.objs.size none)).get? b=some o:=λb o e=>Zad _ (Zad _ e);have hC₁:=k _ _ hC;have hget:((h.push { cls:=.type "tuple",data:=.seq ([]:List Value).toArray }).push (Ke C h.objs.size none)).get? (h.objs.size+1)=some (Ke C h.objs.size none):=by heap_get
 have hcC:(Value.ref C::bm).contains (.ref C)=true:=by simp
 have hcB:(Value.ref C::bm).contains (.type "ValueError")=true:=by rw[ZaL,hV,Zbt]
 unfold isInstance;repeat (first|with_reducible refine wpAny_loadPart_at hget ?_|wp_step)
 show wpAny _ _ (isSubtype (.ref C) (.ref C)) _ _ _
 refine wpAny_isSubtype_exc hC₁ ?_;rw[hcC];repeat wp_step
 show wpAny _ _ (typeLookup (.ref C) _) _ _ _
 refine((PySem.W.looks_findIn X hi).keeps k).at ?_;refine wpAny_holding (Zab (wpAny_of_eq (Fn.init.bind _) ?_));refine Zab (wpAny_call (codeAny_call_builtin Fn.init.plain Fn.initEntry (zV hV hC₁ hget rfl ?_)))
 wp_walk
 refine hq _ (λb o hb=>?_) ⟨h.objs.size+2,?_⟩
 ·rw[ZaM _ _ (ZbV (Nat.lt_succ_of_lt (Zaj hb)))];exact Zad _ (k b o hb)
 ·rw[Zbb _ (Zad _ hget) rfl];simp only[Zbr];rfl
end
structure Rz(K:PySem.W.Frag)(C:Addr):Prop where
 ob:∃ nm q N bs bm sn sub ab col dd k0 k1 k2 k3 k5,K.lookup C=some (excClassObj nm q C N bs bm true sn sub ab col dd k0 k1 k2 k3 k5 "ValueError.__new__")/\ji bm=true
 ini:PySem.W.findIn K (.ref C) "__init__"=some (some (.builtin "ValueError.__init__"))
 kp:keepIn K (.ref C)=true
theorem xM{K:PySem.W.Frag}{C:Addr}{dd:Option Addr}{cd:ClassData}{k0 k1 k2 k3 k5:Option Value}{bm:List Value}
  (l:K.lookup C=some ⟨.type "type",dd,.cls cd,#[k0,k1,k2,k3,some (.builtin "ValueError.__new__"),k5]⟩)(h1:cd.hasDel=false)(h2:cd.hasDict=true)(h3:cd.mro=.ref C::bm)(h4:ji bm=true)
  (init:PySem.W.findIn K (.ref C) "__init__"=some (some (.builtin "ValueError.__init__")))(kp:keepIn K (.ref C)=true):Rz K C:=by
 refine⟨?_,init,kp⟩;obtain⟨nm,bs,mro,ns,q,hd,sn,sub,ab,col,hdel⟩:=cd;dsimp only at h1 h2 h3;subst h1 h2 h3;exact⟨nm,q,ns,bs,bm,sn,sub,ab,col,dd,k0,k1,k2,k3,k5,l,h4⟩
def xN(C:Addr)(E:XK):TS:=λ_ _ H=>E (.ref C) none H
section
variable{X:Cx}{x:Str}{C:Addr}{p pos rpos:Pos}{E:XK}
theorem Ho(Y:Rz X.K C)(hr:cB 2 X.A)(hg:Gl X x)(hm:X.mg x=some (.ref C))
  (hx:∀ (pins:List (Addr×Obj)) (σ:St) (H:Hp) (s:Shared) (e:Addr) (C:Value) (d:Option Addr),Inv X pins σ H s->Fly X pins H s.heap e C d->E C d H->X.xe (.ref e) s)
  (hdb:(x==("__debug__":Str))=false:=by decide):PS X (.Raise (some (.Call (.Name x p) [] [] pos)) none rpos) (xN C E):=by
 obtain⟨nm,q,N,bs,bm,sn,sub,ab,col,dd,k0,k1,k2,k3,k5,hC,ve⟩:=Y.ob;intro pins s σ H D I h;rw[arm_exec_Raise];have key:wpAny (model X.prog X.w) X.A (eval (.Call (.Name x p) [] [] pos) X.env) (λv s₁=>∃ e d,∃ vs:Array Value,v=.ref e/\s₁.heap.get? C=some (excClassObj nm q C N bs bm true sn sub ab col dd k0 k1 k2 k3 k5 "ValueError.__new__") /\
   s₁.heap.get? e=some { cls:=.ref C,dict:=d,data:=.fields vs }/\vs[1]?=some .none/\X.xe (.ref e) s₁) X.xe s:=by
  refine wpAny_Call_Name_kw (oG I hg hm ?_ hdb);refine PySem.W.callWith_K0 I.kIn Y.kp ?_;have kC:=I.kIn _ _ hC;have fr:H (s.heap.objs.size+1)=none:=I.hok.fresh (ZbQ _);have mi:=pF I (b:=s.heap.objs.size+1) (ZbQ _);refine wpAny_call (Hn (g:=s.gens) (d:=s.drawn) (t:=s.toks) (os:=s.os) I.kIn (Cz (by decide) _ ve) (CG (by decide) _ ve) (CG (by decide) _ ve) kC Y.ini λh' hk hu=>?_)
  obtain⟨u,hu⟩:=hu;exact⟨_,none,_,rfl,hk _ _ kC,hu,rfl,hx pins σ H { s with heap:=h' } _ (.ref C) none (I.kept (t':=s.toks) hk) ⟨mi,fr,_,_,hu,rfl,rfl,rfl,rfl,by simp,.inl rfl⟩ h⟩
 exact Zab (wpAny_standAt (CK (C:=C) (nm:=nm) (q:=q) (N:=N) (bs:=bs) (bm:=bm) (hdct:=true) (sn:=sn) (sub:=sub) (ab:=ab) (col:=col) (dd:=dd) (k0:=k0) (k1:=k1) (k2:=k2) (k3:=k3) (k5:=k5) (newId:="ValueError.__new__") (Cz (by decide) _ ve) hr.hd
  (Zab (thn key λv s1 z=>Zab (wpAny_standAt (Zal z))))))
end
structure qP(K:PySem.W.Frag)(mg:Str->Option Value)(c:Str)(C:Addr):Prop where
 ex:Rz K C
 nm:XNm K C c
 xi:XI K C
 mg:mg c=some (.ref C)
def m5(c:Str):Sn:=λ_=>some (.ex (.exc c []))
section
variable{X:Cx}{c:Str}{C:Addr}{p pos rpos:Pos}{E:XK}
theorem jZ(U:qP X.K X.mg c C)(hr:cB 2 X.A)(hg:Gl X c)
  (hx:∀ (pins:List (Addr×Obj)) (σ:St) (H:Hp) (s:Shared) (e:Addr) (C:Value) (d:Option Addr),Inv X pins σ H s->Fly X pins H s.heap e C d->E C d H->X.xe (.ref e) s)
  (hdb:(c==("__debug__":Str))=false:=by decide):PS X (.Raise (some (.Call (.Name c p) [] [] pos)) none rpos) (xN C E):=Ho U.ex hr hg U.mg hx hdb
theorem j0{K:PySem.W.Frag}{mg:Str->Option Value}{Cg':Cg}(hX:Cg'.XR=XRS K)(U:qP K mg c C):MS K Cg' (xN C Cg'.E) (m5 c):=by
 intro F H σ ρ D o R e P;cases e;refine P (.ref C) none F H (aL.refl _) R.rb ?_;rw[hX];exact⟨c,[],C,rfl,rfl,U.nm,.inl ⟨rfl,rfl⟩⟩
end
noncomputable abbrev Fe(α:Type):=Rho->Option (Res (α×Rho))
def ug{α β:Type}(x:Option (Res (α×Rho)))(k:α->Rho->Option (Res β)):Option (Res β):=match x with
 |some (.ok (a,ρ))=>k a ρ
 |some (.ex z)=>some (.ex z)
 |none=>none
def lM{α:Type}(x:Option (Res (α×Rho)))(k:α->Rho->Option Out):Option Out:=match x with
 |some (.ok (a,ρ))=>k a ρ
 |some (.ex z)=>some (.ex z)
 |none=>none
theorem uh{α β:Type}{x:Option (Res (α×Rho))}{k:α->Rho->Option (Res β)}{r:Res β}(h:ug x k=some r):(∃ z,x=some (.ex z)/\r=.ex z)\/∃ a ρ,x=some (.ok (a,ρ))/\k a ρ=some r:=by
 match x,h with
 |some (.ok (a,ρ)),h=>exact .inr ⟨a,ρ,rfl,h⟩
 |some (.ex z),h=>exact .inl ⟨z,rfl,(Zaa h).symm⟩
theorem jB{α:Type}{x:Option (Res (α×Rho))}{k:α->Rho->Option Out}{o:Out}(h:lM x k=some o):(∃ z,x=some (.ex z)/\o=.ex z)\/∃ a ρ,x=some (.ok (a,ρ))/\k a ρ=some o:=by
 match x,h with
 |some (.ok (a,ρ)),h=>exact .inr ⟨a,ρ,rfl,h⟩
 |some (.ex z),h=>exact .inl ⟨z,rfl,(Zaa h).symm⟩
def PrE{α:Type}(K:PySem.W.Frag)(C:Cg)(F:Hp)(σ:St)(ok:α->Hp->Hp->Prop):Res (α×Rho)->Prop
 |.ok (a,ρ')=>∀ F' H',aL F F'->RE K C.toCf F' H' σ ρ'->ok a F' H'
 |.ex z=>PX C F z
def MEJ(K:PySem.W.Frag)(C:Cg)(te:TE)(f:Fe PV):Prop:=∀ F H σ ρ Q r,RE K C.toCf F H σ ρ->f ρ=some r->PrE K C F σ (λp F' H'=>∀ v,Rep K F' v p->Q v H') r->te σ H Q
def MEA(K:PySem.W.Frag)(C:Cg)(ta:TA)(f:Fe (List PV)):Prop:=∀ F H σ ρ Q r,RE K C.toCf F H σ ρ->f ρ=some r->PrE K C F σ (λl F' H'=>∀ xs,bz K F' xs l->Q xs H') r->ta σ H Q
def MET(K:PySem.W.Frag)(C:Cg)(tt:TT)(f:Fe Bool):Prop:=∀ F H σ ρ Q r,RE K C.toCf F H σ ρ->f ρ=some r->PrE K C F σ (λb _ H'=>Q b H') r->tt σ H Q
section
variable{K:PySem.W.Frag}{C:Cg}{ta tb te:TE}{t:TA}{F F1 H H1:Hp}{σ:St}{ρ:Rho}{D:Ends}{o:Out}
theorem PrE.up{α:Type}{ok:α->Hp->Hp->Prop}{r:Res (α×Rho)}(h:PrE K C F σ ok r)(s:aL F F1):PrE K C F1 σ ok r:=by
 cases r with
 |ok a=>exact λF' H' s'=>h F' H' (s.trans s')
 |ex z=>exact PX.up h s
theorem MEJ.run{β:Type}{f:Fe PV}{Q:VK}{ok:β->Hp->Hp->Prop}{k:PV->Rho->Option (Res (β×Rho))}{r:Res (β×Rho)}(h:MEJ K C te f)(R:RE K C.toCf F H σ ρ)(e:ug (f ρ) k=some r)(P:PrE K C F σ ok r)
  (go:∀ p ρ' v F1 H1,k p ρ'=some r->aL F F1->RE K C.toCf F1 H1 σ ρ'->Rep K F1 v p->Q v H1):te σ H Q:=by
 rcases uh e with⟨z,e1,rfl⟩|⟨p,ρ',e1,hk⟩
 ·exact h F H σ ρ Q _ R e1 P
 ·exact h F H σ ρ Q _ R e1 λF1 H1 s R1 v a=>go p ρ' v F1 H1 hk s R1 a
theorem MEA.run{β:Type}{f:Fe (List PV)}{Q:List V->Hp->Prop}{ok:β->Hp->Hp->Prop}{k:List PV->Rho->Option (Res (β×Rho))}{r:Res (β×Rho)}(h:MEA K C t f)(R:RE K C.toCf F H σ ρ)(e:ug (f ρ) k=some r)(P:PrE K C F σ ok r)
  (go:∀ l ρ' xs F1 H1,k l ρ'=some r->aL F F1->RE K C.toCf F1 H1 σ ρ'->bz K F1 xs l->Q xs H1):t σ H Q:=by
 rcases uh e with⟨z,e1,rfl⟩|⟨p,ρ',e1,hk⟩
 ·exact h F H σ ρ Q _ R e1 P
 ·exact h F H σ ρ Q _ R e1 λF1 H1 s R1 v a=>go p ρ' v F1 H1 hk s R1 a
theorem MEJ.jh{f:Fe PV}{Q:VK}{k:PV->Rho->Option Out}(h:MEJ K C te f)(R:RE K C.toCf F H σ ρ)(e:lM (f ρ) k=some o)(P:PO' K C F D o)
  (go:∀ p ρ' v F1 H1,k p ρ'=some o->aL F F1->RE K C.toCf F1 H1 σ ρ'->Rep K F1 v p->Q v H1):te σ H Q:=by
 rcases jB e with⟨z,e1,rfl⟩|⟨p,ρ',e1,hk⟩
 ·exact h F H σ ρ Q _ R e1 P
 ·exact h F H σ ρ Q _ R e1 λF1 H1 s R1 v a=>go p ρ' v F1 H1 hk s R1 a
def eP{α:Type}(f:Fn α):Fe α:=λρ=>bnd (f ρ) λp=>some (.ok (p,ρ))
theorem jC{f:Fn PV}(h:MJ K C (aF K) te f):MEJ K C te (eP f):=by
 intro F H σ ρ Q r R e P;rcases bx e with⟨z,e1,rfl⟩|⟨p,e1,hk⟩
 ·exact h F H σ ρ Q _ R e1 P
 ·cases hk;exact h F H σ ρ Q _ R e1 λv F1 H1 u a=>P F1 H1 u.ff (R.up u) v a
def e2(op:PV->PV->Option (Res PV))(f g:Fe PV):Fe PV:=λρ=>ug (f ρ) λa ρ1=>ug (g ρ1) λb ρ2=>bnd (op a b) λc=>some (.ok (c,ρ2))
theorem vV{op:PV->PV->Option (Res PV)}{r2:R2}{f g:Fe PV}(rule:R2M C (aF K) (aF K) (aF K) r2 op)(ha:MEJ K C ta f)(hb:MEJ K C tb g):MEJ K C (tOp r2 ta tb) (e2 op f g):=by
 intro F H σ ρ Q r R e P;refine ha.run R e P λp ρ1 v F1 H1 hk s1 R1 a=>?_;refine hb.run R1 hk (P.up s1) λq ρ2 w F2 H2 hk2 s2 R2 b=>?_;rcases bx hk2 with⟨z,e1,rfl⟩|⟨c,e1,hk3⟩
 ·exact rule F2 H2 v w p q _ Q R2.rb.sub (a.up s2) b e1 (PX.up P (s1.trans s2))
 ·cases hk3;exact rule F2 H2 v w p q _ Q R2.rb.sub (a.up s2) b e1 λx F3 H3 u d=>P F3 H3 ((s1.trans s2).trans u.ff) (R2.up u) x d
def xO:Fe (List PV):=λρ=>some (.ok ([],ρ))
theorem j4:MEA K C oJ xO:=λF H σ ρ Q r R e P=>by
 cases e;exact P F H (aL.refl _) R [] .nil
def gj(f:Fe PV)(g:Fe (List PV)):Fe (List PV):=λρ=>ug (f ρ) λa ρ1=>ug (g ρ1) λl ρ2=>some (.ok (a::l,ρ2))
theorem cO{f:Fe PV}{g:Fe (List PV)}(ha:MEJ K C ta f)(hs:MEA K C t g):MEA K C (eY ta t) (gj f g):=by
 intro F H σ ρ Q r R e P;refine ha.run R e P λp ρ1 v F1 H1 hk s1 R1 a=>?_;refine hs.run R1 hk (P.up s1) λl ρ2 xs F2 H2 hk2 s2 R2 b=>?_;cases hk2;exact P F2 H2 (s1.trans s2) R2 _ (b.cons (a.up s2))
def ul(m:List PV->Option (Res PV))(f:Fe (List PV)):Fe PV:=λρ=>ug (f ρ) λl ρ1=>bnd (m l) λc=>some (.ok (c,ρ1))
theorem rQ{f:Fe (List PV)}{m:List PV->Option (Res PV)}(h:MEA K C t f):MEJ K C (nu (spM K C.XR m) [] C.E t) (ul m f):=by
 intro F H σ ρ Q r R e P;refine h.run R e P λl ρ1 xs F1 H1 hk s1 R1 a=>?_;rcases bx hk with⟨z,e1,rfl⟩|⟨c,e1,hk3⟩
 ·exact⟨l,F1,_,R1.rb.sub,by rw[Zaz];exact a,e1,λe d F' H' u x=>P e d F' H' (s1.trans u.ff) (R1.rb.up u) x⟩
 ·cases hk3;exact⟨l,F1,_,R1.rb.sub,by rw[Zaz];exact a,e1,λv F' H' u rv=>P F' H' (s1.trans u.ff) (R1.up u) v rv⟩
def Hq(f:Fe (List PV)):Fe PV:=λρ=>ug (f ρ) λl ρ1=>if l.length<=sizeLine then some (.ok (.tup l,ρ1)) else none
theorem CP{f:Fe (List PV)}(h:MEA K C t f):MEJ K C (LC t) (Hq f):=by
 intro F H σ ρ Q r R e P;refine h.run R e P λl ρ1 xs F1 H1 hk s1 R1 a=>?_;split at hk
 ·rename_i hl;cases hk;refine⟨by rw[a.1];exact hl,λb hb=>?_⟩
  have u:Up F1 H1 (upd F1 b (.tup xs)) (upd H1 b (.tup xs)):=Up.new R1.rb.sub hb;exact P _ _ (s1.trans u.ff) (R1.up u) _ (.tup aP a.1 λj x p e1 e2=>(a.2 j x p e1 e2).up u.ff)
 ·cases hk
def eBl(f:Fe PV):Fe Bool:=λρ=>ug (f ρ) λa ρ1=>match a with
 |.bl b=>some (.ok (b,ρ1))
 |_=>none
theorem zW{f:Fe PV}(h:MEJ K C te f):MET K C (DW te) (eBl f):=by
 intro F H σ ρ Q r R e P;refine h.run R e P λp ρ1 v F1 H1 hk s1 R1 a=>?_
 match p,hk with
 |.bl b,hk=>
  cases hk;cases Rep.cX a;exact⟨b,rfl,P F1 H1 s1 R1⟩
variable{ts us:TS}{f g:Sn}
def CQ(fe:Fe PV)(tg:PV->Rho->Option Rho):Sn:=λρ=>lM (fe ρ) λp ρ1=>match tg p ρ1 with
 |some ρ'=>some (.nx ρ')
 |none=>none
theorem rR{fe:Fe PV}{gt:TG}{tg:PV->Rho->Option Rho}(h:MEJ K C te fe)(hg:MG K C gt tg):MS K C (wG te gt) (CQ fe tg):=by
 intro F H σ ρ D o R e P;refine h.jh R e P λp ρ1 v F1 H1 hk s1 R1 a=>?_;split at hk
 ·rename_i ρ' h1;cases hk;exact hg F1 H1 σ ρ1 v p ρ' _ R1 a h1 λσ' R'=>P F1 H1 σ' s1 R'
 ·cases hk
def Nk(fe:Fe PV):Sn:=λρ=>lM (fe ρ) λp _=>some (.rt p)
theorem Nm{fe:Fe PV}(h:MEJ K C te fe):MS K C (Gs te) (Nk fe):=by
 intro F H σ ρ D o R e P;refine h.jh R e P λp ρ1 v F1 H1 hk s1 R1 a=>?_;cases hk;exact P v F1 H1 s1 R1.rb a
def eIf(fc:Fe Bool)(f g:Sn):Sn:=λρ=>lM (fc ρ) λb ρ1=>if b=true then f ρ1 else g ρ1
theorem Kl{c:TT}{fc:Fe Bool}(hc:MET K C c fc)(h1:MS K C ts f)(h2:MS K C us g):MS K C (Lw c ts us) (eIf fc f g):=by
 intro F H σ ρ D o R e P;rcases jB e with⟨z,e1,rfl⟩|⟨b,ρ1,e1,hk⟩
 ·exact hc F H σ ρ _ _ R e1 P
 refine hc F H σ ρ _ _ R e1 λF1 H1 s R1=>?_;cases b with
 |true=>rw[Zae rfl] at hk ⊢;exact h1 F1 H1 σ ρ1 D o R1 hk (P.up s)
 |false=>rw[Zaf (by decide)] at hk ⊢;exact h2 F1 H1 σ ρ1 D o R1 hk (P.up s)
def zX(fe:Fe PV)(tg:PV->Rho->Option Rho)(f:Sn):Sn:=λρ=>lM (fe ρ) λp ρ1=>match p with
 |.int j=>if -(2^62)<=j/\j<2^62 then loop tg f (kZ 0 j.toNat) ρ1 else none
 |_=>none
theorem Ff{fe:Fe PV}{gt:TG}{tg:PV->Rho->Option Rho}(h:MEJ K C te fe)(hg:MG K C gt tg)(hb:MS K C ts f):MS K C (Qo (IK (eY te oJ)) gt ts) (zX fe tg f):=by
 intro F H σ ρ D o R e P;show te σ H _
 refine h.jh R e P λp ρ1 v F1 H1 hk s1 R1 a=>?_
 match p,hk with
 |.int j,hk=>
  have hk:(if -(2^62)<=j/\j<2^62 then loop tg f (kZ 0 j.toNat) ρ1 else none)=some o:=hk;split at hk
  ·rename_i hj;cases Rep.aX a;exact⟨j,rfl,hj.1,hj.2,vO hg hb (xm 0 _) R1 hk (P.up s1)⟩
  ·cases hk
def CT(i:Nat)(fe:Fe PV):Sn:=λρ=>match ownAt i ρ with
 |some (.lst _)=>lM (fe ρ) λp ρ1=>match ownAt i ρ1 with
  |some (.lst l)=>if l.length<sizeLine then some (.nx (ρ1.set i (some (.ow (.lst (l++[p])))))) else none
  |_=>none
 |_=>none
theorem Fg{i:Nat}{fe:Fe PV}(h:MEJ K C te fe):MS K C (qz (tBM K "list" wR (jx i) (eY te oJ))) (CT i fe):=by
 intro F H σ ρ D o R e P;unfold CT at e;split at e
 ·rename_i l hl;obtain⟨a,g1,⟨xs,g2,g3⟩,g4,g5⟩:=R.ow i _ (bc hl);refine⟨_,g1,tyL g2,h.jh R e P λp ρ1 v F1 H1 hk s1 R1 w=>?_⟩;split at hk
  ·rename_i l1 hl1;split at hk
   ·rename_i hlen;cases hk;obtain⟨a',k1,⟨ys,k2,k3⟩,k4,k5⟩:=R1.ow i _ (bc hl1);rw[g1] at k1;cases k1;refine⟨a,ys,v,rfl,rfl,k2,by rw[k3.1];exact hlen,?_⟩
    exact P F1 _ σ s1 (R1.write (bc hl1) g1 ⟨_,aP,k3.snoc w⟩)
   ·cases hk
  ·cases hk
 ·cases e
theorem bz.erase{xs:List V}{l:List PV}(h:bz K F xs l)(k:Nat):bz K F (xs.eraseIdx k) (l.eraseIdx k):=by
 refine⟨by rw[List.length_eraseIdx,List.length_eraseIdx,h.1],λj x p e1 e2=>?_⟩
 rw[List.getElem?_eraseIdx] at e1 e2;split at e1
 ·rename_i hj;rw[Zae hj] at e2;exact h.2 _ x p e1 e2
 ·rename_i hj;rw[Zaf hj] at e2;exact h.2 _ x p e1 e2
def Hr(g i:Nat)(fe:Fe PV):Sn:=λρ=>match ownAt i ρ with
 |some (.lst _)=>lM (fe ρ) λp ρ1=>match ownAt i ρ1,p with
  |some (.lst l),.int k=>if 0<=k/\k<2^62 then match l[k.toNat]? with
   |some y=>some (.nx ((ρ1.set i (some (.ow (.lst (l.eraseIdx k.toNat))))).set g (some (.sh y))))
   |none=>none else none
  |_,_=>none
 |_=>none
theorem Np{g i:Nat}{fe:Fe PV}(h:MEJ K C te fe):MS K C (wG (tBM K "list" Jm (jx i) (eY te oJ)) (qC g)) (Hr g i fe):=by
 intro F H σ ρ D o R e P;unfold Hr at e;split at e
 ·rename_i l hl;obtain⟨a,g1,⟨xs,g2,g3⟩,g4,g5⟩:=R.ow i _ (bc hl);refine⟨_,g1,tyL g2,h.jh R e P λp ρ1 v F1 H1 hk s1 R1 w=>?_⟩;split at hk
  ·rename_i l1 k hl1;split at hk
   ·rename_i hk0;split at hk
    ·rename_i y hy;cases hk;cases Rep.aX w;obtain⟨a',k1,⟨ys,k2,k3⟩,k4,k5⟩:=R1.ow i _ (bc hl1);rw[g1] at k1;cases k1;obtain⟨x,hx,rx⟩:=k3.get hy;have kl:k.toNat<ys.length:=by rw[k3.1];exact(Zar.mp hy).1
     refine⟨a,ys,k,k.toNat,x,rfl,rfl,k2,by omega,by omega,?_,hx,P F1 _ _ s1 ((R1.write (p':=.lst (l1.eraseIdx k.toNat)) (bc hl1) g1 ⟨_,aP,k3.erase _⟩).set g rx)⟩
     unfold seqIndex?;rw[Zaf (by omega:¬k<0),Zae (by simp;omega)]
    ·cases hk
   ·cases hk
  ·cases hk
 ·cases e
end
def spR(K:PySem.W.Frag)(j:Nat)(m:List PV->Option (Res PV)):Sp:=λvs H Q _=>∃ ps F a p q p',aL F H/\zA K F a p j vs ps/\Own K F H a p/\F a=none/\m ps=some (.ok (.tup [q,p'])) /\
 ∀ v F' H',Tq a F H F' H'->Own K F' H' a p'->F' a=none->Rep K F' v q->Q v H'
def POR(K:PySem.W.Frag)(C:Cg)(F:Hp)(D:Ends):Out->Prop
 |.rt (.tup [q,p'])=>∀ v F' H' a,aL F F'->RB C.toCf F' H'->(C.io a\/(C.nw/\C.H0 a=none))->Own K F' H' a p'->F' a=none->Rep K F' v q->D.rt v H'
 |_=>False
def MSR(K:PySem.W.Frag)(C:Cg)(t:TS)(f:Sn):Prop:=∀ F H σ ρ D o,RE K C.toCf F H σ ρ->f ρ=some o->POR K C F D o->t D σ H
def Fi(j:Nat)(fe:Fn PV):Sn:=λρ=>eE (fe ρ) λq=>match ownAt j ρ with
 |some p=>some (.rt (.tup [q,p]))
 |none=>none
section
variable{K:PySem.W.Frag}{C:Cg}{t u:TS}{te:TE}{f g:Sn}{N:List Str}{vs:List V}{H:Hp}{Q:VK}{E:XK}{m:List PV->Option (Res PV)}{b:Sn}{n j:Nat}
theorem POR.up{F F1:Hp}{D:Ends}{o:Out}(h:POR K C F D o)(s:aL F F1):POR K C F1 D o:=by
 unfold POR at h ⊢;split at h
 ·exact λv F' H' a s'=>h v F' H' a (s.trans s')
 ·exact h.elim
theorem Fj(h1:MS K C t f)(h2:MSR K C u g):MSR K C (Gr t u) (nA f g):=by
 intro F H σ ρ D o R e P;unfold nA at e;split at e
 ·rename_i ρ' h;exact h1 F H σ ρ _ _ R h λF' H' σ' s R'=>h2 F' H' σ' ρ' D o R' e (P.up s)
 ·cases e
theorem Nq{fe:Fn PV}(h:MJ K C (aF K) te fe):MSR K C (Gs te) (Fi j fe):=by
 intro F H σ ρ D o R e P;rcases bR e with⟨z,e1,rfl⟩|⟨q,e1,hk⟩
 ·exact P.elim
 refine h F H σ ρ _ _ R e1 λv F1 H1 u1 a=>?_;split at hk
 ·rename_i p hp;cases hk;obtain⟨b,g1,g2,g3,g4⟩:=(R.up u1).ow j _ (bc hp);exact P v F1 H1 b u1.ff (R.rb.up u1) g4 g2 g3 a
 ·cases hk
theorem Nr(h:spR K j m vs H Q E){k:Nat}(hm:∀ ps r,m ps=some r->ps.length=k):vs.length=k:=by
 obtain⟨ps,F,a,p,q,p',s,rp,w,hn,e,P⟩:=h;rw[rp.1];exact hm ps _ e
theorem Nt{k:Nat}(hk:N.length=k+n)(hm:∀ ps r,m ps=some r->ps.length=k/\fin (b (cA j ps n))=some r)(h:spR K j m vs H Q E)(hS:∀ (a:Addr) (H0 F0:Hp),MSR K (C1 a H0 F0) t b) :
  t { nx:=λ_ H'=>Q .non H',rt:=Q } (start N vs) H:=by
 obtain⟨ps,F,a,p,q,p',s,rp,w,hn,e,P⟩:=h;obtain⟨hl,e⟩:=hm ps _ e;have R:=tY (E:=E0) (N:=N) (n:=n) s rp w hn (by rw[rp.1,hl];exact hk)
 cases ho:b (cA j ps n) with
 |none=>rw[ho] at e;cases e
 |some o=>
  rw[ho] at e;cases o with
  |rt r=>
   cases e;refine hS a H F F H _ _ _ _ R ho λv F' H' c s' rb hc ow nf rv=>?_;have hc:c=a:=hc.elim id λz=>z.1.elim;subst hc;exact P v F' H' ⟨s',λb o q hb=>rb.keep b o q hb,rb.new,rb.sub⟩ ow nf rv
  |nx ρ=>cases e
  |ex z=>cases e
  |_=>cases e
end
def eIO(i:Nat)(m:List PV->Option (Res PV))(f:Fn (List PV)):Fe PV:=λρ=>match ownAt i ρ with
 |some _=>bnd (f ρ) λl=>match m l with
  |some (.ok (.tup [q,p']))=>some (.ok (q,ρ.set i (some (.ow p'))))
  |_=>none
 |none=>none
section
variable{K:PySem.W.Frag}{C:Cg}{t:TA}{f:Fn (List PV)}{m:List PV->Option (Res PV)}{E:XK}
theorem lN{i j:Nat}(h:MAH K C i j t f):MEJ K C (nu (spR K j m) [] E t) (eIO i m f):=by
 intro F H σ ρ Q r R e P;unfold eIO at e;split at e
 case h_2=>cases e
 rename_i p hp;have hp:=bc hp;obtain⟨a,ea,w,hn,h4⟩:=R.ow i p hp;rcases bx e with⟨z,e1,rfl⟩|⟨l,e1,e2⟩
 ·exact h F H σ ρ _ _ a p R hp ea e1 P
 refine h F H σ ρ _ _ a p R hp ea e1 λxs F1 H1 u rr=>?_;split at e2
 ·rename_i q p' hm;cases e2;have R1:=R.up u;obtain⟨a',ea',w',hn',_⟩:=R1.ow i p hp;rw[ea] at ea';cases ea';exact⟨l,F1,a,p,q,p',u.fh,by rw[Zaz];exact rr,w',hn',hm,λv F2 H2 u2 w2 n2 rv=>P F2 H2 (u.ff.trans u2.ff) (R1.Uk hp ea u2 w2 n2) v rv⟩
 ·cases e2
end
structure TX(a:Addr)(F H F' H':Hp):Prop where
 ff:aL F F'
 hb:SameBut a H H'
 fr:∀ b o,F' b=some o->F b=some o\/Frz H b o\/b=a
 fh:aL F' H'
def spG(K:PySem.W.Frag)(m:List PV->Option (Res PV)):Sp:=λvs H Q _=>∃ ps F a p q,aL F H/\zA K F a p 0 vs ps/\Own K F H a p/\F a=none/\m ps=some (.ok q)/\∀ v F' H',TX a F H F' H'->Rep K F' v q->Q v H'
section
variable{K:PySem.W.Frag}{t:TS}{N:List Str}{vs:List V}{H F:Hp}{Q:VK}{E:XK}{m:List PV->Option (Res PV)}{b:Sn}{n:Nat}{a:Addr}{p:PV}{ps:List PV}
theorem Fl(h:spG K m vs H Q E){k:Nat}(hm:∀ ps r,m ps=some r->ps.length=k):vs.length=k:=by
 obtain⟨ps,F,a,p,q,s,rp,w,hn,e,P⟩:=h;rw[rp.1];exact hm ps _ e
theorem Hs(s:aL F H)(r:zA K F a p 0 vs ps)(w:Own K F H a p)(hn:F a=none)(hN:N.length=vs.length+n):RE K ⟨λ_=>False,True,del H a,F,E⟩ F H (start N vs) (cA 0 ps n):=by
 have R:=tY (E:=E) (N:=N) (n:=n) s r w hn hN;refine⟨⟨s,λb o q _=>?_,λ_ _ h=>.inl h,λ_ h=>h.elim⟩,R.len,R.sh,λi q e=>?_,R.dis,⟨_,RD.no λi q e=>?_⟩⟩
 ·have q:del H a b=some o:=q;by_cases hb:b=a
  ·subst hb;rw[zQ] at q;cases q
  ·rw[CJ hb] at q;exact q
 ·obtain⟨c,e1,e2,e3,e4⟩:=R.ow i q e;have hc:c=a:=e4.elim id λz=>z.1.elim;subst hc;exact⟨c,e1,e2,e3,.inr ⟨trivial,zQ⟩⟩
 ·obtain⟨q',e1,e2⟩:=gh e;by_cases hij:i=0
  ·rw[Zae hij] at e2;cases e2
  ·rw[Zaf hij] at e2;cases e2
theorem Fo{k:Nat}(hk:N.length=k+n)(hm:∀ ps r,m ps=some r->ps.length=k/\fin (b (cA 0 ps n))=some r)(h:spG K m vs H Q E)(hS:∀ (io:Addr->Prop) (H0 F0:Hp),(∀ a,¬io a)->MS K (C0 io H0 F0) t b) :
  t { nx:=λ_ H'=>Q .non H',rt:=Q } (start N vs) H:=by
 obtain⟨ps,F,a,p,q,s,rp,w,hn,e,P⟩:=h;obtain⟨hl,e⟩:=hm ps _ e;have R:=Hs (E:=E0) (N:=N) (n:=n) s rp w hn (by rw[rp.1,hl];exact hk)
 have up:∀ {F' H':Hp},aL F F'->RB ⟨λ_=>False,True,del H a,F,E0⟩ F' H'->TX a F H F' H':=λ{F' H'} s' rb=>⟨s',λc o q hc=>rb.keep c o (show del H a c=some o by rw[CJ hc];exact q) id,λc o q=>by
  rcases rb.new c o q with z|z|z
  ·exact .inl z
  ·by_cases hc:c=a
   ·exact .inr (.inr hc)
   ·have z:del H a c=none:=z;rw[CJ hc] at z;exact .inr (.inl (.inl z))
  ·exact .inr (.inl (.inr z)),rb.sub⟩
 have M:=hS (λ_=>False) (del H a) F (λ_ h=>h);cases ho:b (cA 0 ps n) with
 |none=>rw[ho] at e;cases e
 |some o=>
  rw[ho] at e;refine M F H _ _ _ o R ho ?_;cases o with
  |nx ρ=>cases e;exact λF' H' σ s' R'=>P .non F' H' (up s' R'.rb) .non
  |rt p=>cases e;exact λv F' H' s' rb rv=>P v F' H' (up s' rb) rv
  |ex z=>exact λ_ _ _ _ _ _ x=>x.elim
  |ro p=>cases e
  |rd p=>cases e
  |bk ρ=>cases e
  |ct ρ=>cases e
end
def zY(m:List PV->Option (Res PV))(fa:Fn PV)(fs:Fn (List PV)):Fn PV:=λρ=>bnd (fa ρ) λp=>bnd (fs ρ) λl=>match m (p::l) with
 |some (.ok q)=>some (.ok q)
 |_=>none
section
variable{K:PySem.W.Frag}{C:Cg}{ta:TE}{t:TA}{fa:Fn PV}{fs:Fn (List PV)}{m:List PV->Option (Res PV)}{E:XK}
theorem Fp(ha:MO K C ta fa)(hs:MA K C t fs):MJ K C (aF K) (nu (spG K m) [] E (eY ta t)) (zY m fa fs):=by
 intro F H σ ρ Q r R e P;rcases bx e with⟨z,e1,rfl⟩|⟨p,e1,hk⟩
 ·exact ha F H σ ρ _ _ R e1 P
 refine ha F H σ ρ _ _ R e1 λa F1 H1 u1 n0 n1 w1=>?_;rcases bx hk with⟨z,e2,rfl⟩|⟨l,e2,hk2⟩
 ·exact hs F1 H1 σ ρ _ _ (R.up u1) e2 (PX.up P u1.ff)
 refine hs F1 H1 σ ρ _ _ (R.up u1) e2 λxs F2 H2 u2 rl=>?_;split at hk2
 case h_2=>cases hk2
 rename_i q hm;cases hk2;obtain⟨ob,eo⟩:=w1.ne;have nw:New H F1 H1 (λb=>b=a):=λb hb=>by subst hb;exact⟨n0,n1,ob,eo,λys z=>by subst z;exact w1.qJ eo⟩
 have n2:F2 a=none:=((nw.up u2) a rfl).2.1;refine⟨p::l,F2,a,p,q,u2.fh,?_,w1.up u2.ff λo z=>u2.hh _ _ z,n2,hm,λv F' H' g rv=>P v F' H' ⟨(u1.trans u2).ff.trans g.ff,λb o z=>?_,λb o z=>?_,g.fh⟩ rv⟩
 ·rw[Zaz];refine⟨by simp[rl.1],rfl,rfl,λk x q hk e1 e2=>?_⟩
  cases k with
  |zero=>exact absurd rfl hk
  |succ k=>exact rl.2 k x q (by simpa using e1) (by simpa using e2)
 ·exact g.hb b o ((u1.trans u2).hh b o z) λhb=>by subst hb;rw[n0] at z;cases z
 ·rcases g.fr b o z with y|y|y
  ·exact(u1.trans u2).fr b o y
  ·exact .inr (y.imp (λy=>(u1.trans u2).hh.free y) id)
  ·subst y;exact .inr (.inl n0)
end
structure OC(K:PySem.W.Frag)(c:Str)(Ca:Addr):Prop where
 ns:nsIn K mainGlobals c=some (some (.ref Ca))
 cl:Cls K Ca
def lO(cls g:Str)(f:Fn PV):Fn PV:=λρ=>bnd (f ρ) λp=>match p with
 |.obj c l=>if c=cls then(l.lookup g).map .ok else none
 |_=>none
def oE(cls mn:Str)(m:List PV->Option (Res PV))(fa:Fn PV)(fs:Fn (List PV)):Fn PV:=λρ=>bnd (fa ρ) λp=>match p with
 |.obj c l=>if c=cls/\l.lookup mn=none then bnd (fs ρ) λxs=>m (.obj c l::xs) else none
 |_=>none
section
variable{K:PySem.W.Frag}{C:Cg}{F H:Hp}{σ:St}{ρ:Rho}{v:V}{c cls g mn:Str}{l:List (Str×PV)}{Ca:Addr}{te ta:TE}{t:TA}{f fa:Fn PV}{fs:Fn (List PV)}{m:List PV->Option (Res PV)}
theorem Rep.m6(h:Rep K F v (.obj c l)):∃ a Ca dx xs,v=.ref a/\XNm K Ca c/\F a=some (.ins Ca dx xs)/\xs.map (·.1)=l.map (·.1)/\∀ (j:Nat) x p,xs[j]?=some x->l[j]?=some p->Rep K F x.2 p.2:=by
 cases h with
 |obj nm h hl hr=>exact⟨_,_,_,_,rfl,nm,h,hl,hr⟩
theorem lookup_none:∀ {xs:List (Str×V)}{l:List (Str×PV)},xs.map (·.1)=l.map (·.1)->l.lookup mn=none->xs.lookup mn=none
 |[],[],_,_=>rfl
 |[],_::_,h,_=>by simp at h
 |_::_,[],h,_=>by simp at h
 |(k,v)::xs,(k',q)::l,h,e=>by
  simp only[ZaA,ZbF] at h;obtain⟨rfl,h⟩:=h;by_cases hg:(mn==k)=true
  ·simp only[List.lookup,hg] at e;cases e
  ·rw[Zbh] at hg;simp only[List.lookup,hg] at e ⊢;exact lookup_none h e
theorem iG(O:OC K cls Ca)(n:eX K Ca g)(h:MJ K C (aF K) te f):MJ K C (aF K) (Lz K te g) (lO cls g f):=by
 intro F H σ ρ Q r R e P;refine h.run R e P λp v F1 H1 hk u a=>?_;split at hk
 ·rename_i c l;split at hk
  ·rename_i hc;subst hc;obtain⟨p,hp,rfl⟩:=ZaX.mp hk;obtain⟨b,Ca',dx,xs,rfl,nm,h1,h3,h4⟩:=Rep.m6 a;have:=nm.ns;rw[O.ns] at this;cases this;obtain⟨v,hv,rv⟩:=jY h3 h4 hp;exact⟨b,Ca,dx,xs,v,rfl,u.fh _ _ h1,O.cl,n,hv,P v F1 H1 u rv⟩
  ·cases hk
 ·cases hk
theorem Nu{sp:Sp}{E:XK}{Q:VK}{r:Res PV}{ok:PV->Prop}(O:OC K cls Ca)(ha:MJ K C (aF K) ta fa)(hs:MA K C t fs)(R:RE K C.toCf F H σ ρ)(e:oE cls mn m fa fs ρ=some r)(P:Pr C F ok r)
  (go:∀ ps xs F1 H1,m ps=some r->Up F H F1 H1->bz K F1 xs ps->sp xs H1 Q E):qG Ca mn sp [] E ta t σ H Q:=by
 refine ha.run R e P λp v F1 H1 hk u a=>?_;split at hk
 ·rename_i c l;split at hk
  ·rename_i hc;obtain⟨rfl,hn⟩:=hc;obtain⟨b,Ca',dx,xs,rfl,nm,h1,h3,h4⟩:=Rep.m6 a;have:=nm.ns;rw[O.ns] at this;cases this;refine⟨b,dx,xs,rfl,u.fh _ _ h1,lookup_none h3 hn,?_⟩;refine hs.run (R.up u) hk (Pr.mono P u.ff λ_ q=>q) λls ys F2 H2 hk2 u2 rl=>?_;rw[Zaz];exact go _ _ F2 H2 hk2 (u.trans u2) (rl.cons (Rep.up a u2.ff))
  ·cases hk
 ·cases hk
end
theorem Dp.m6{K:PySem.W.Frag}{F H:Hp}{S:Addr->Prop}{v:V}{c:Str}{l:List (Str×PV)}(d:Dp K F H S v (.obj c l)):∃ (T:Nat->Addr->Prop) (a Ca dx:Addr) (xs:List (Str×V)),v=.ref a/\XNm K Ca c/\H a=some (.ins Ca dx xs)/\S a/\(∀ j b,T j b->S b/\b≠a)/\(∀ i j b,T i b->T j b->i=j)/\xs.map (·.1)=l.map (·.1)/\∀ (j:Nat) x p,xs[j]?=some x->l[j]?=some p->Dp K F H (T j) x.2 p.2:=by
 cases d with
 |fr r st=>cases st
 |obj nm h hp hs dj hl hr=>exact⟨_,_,_,_,_,rfl,nm,h,hp,hs,dj,hl,hr⟩
theorem zZ{f:Str}{y:V}:∀ {fs:List (Str×V)},fs.lookup f=none->kO f y fs=fs++[(f,y)]
 |[],_=>rfl
 |(k,v)::fs,h=>by
  by_cases hk:(f==k)=true
  ·simp only[List.lookup,hk] at h;cases h
  ·rw[Zbh] at hk;simp only[List.lookup,hk] at h;have hne:k≠f:=λz=>by rw[z] at hk;simp at hk
   unfold kO;rw[Zaf hne,zZ h];rfl
def POi(K:PySem.W.Frag)(C:Cg)(F:Hp)(D:Ends)(σ:St):Out->Prop
 |.nx ρ=>∀ F' H',aL F F'->RE K C.toCf F' H' σ ρ->D.nx σ H'
 |.ex z=>PX C F z
 |_=>False
def MSi(K:PySem.W.Frag)(C:Cg)(t:TS)(f:Sn):Prop:=∀ F H σ ρ D o,RE K C.toCf F H σ ρ->f ρ=some o->POi K C F D σ o->t D σ H
def g8(f:Sn):Sn:=λρ=>match f ρ with
 |some (.nx ρ')=>some (.nx ρ')
 |some (.ex z)=>some (.ex z)
 |_=>none
theorem TY{K:PySem.W.Frag}{C:Cg}{t:TS}{f:Sn}(h:MSi K C t f):MS K C t (g8 f):=by
 intro F H σ ρ D o R e P;unfold g8 at e;split at e
 ·rename_i ρ' h1;cases e;exact h F H σ ρ D _ R h1 λF' H' s R'=>P F' H' σ s R'
 ·rename_i z h1;cases e;exact h F H σ ρ D _ R h1 P
 ·cases e
theorem um{K:PySem.W.Frag}{C:Cg}{t:TS}{f:Sn}{i:Nat}(h:MSi K C t f):MSk K C i t (g8 f):=by
 intro F H σ ρ D o R e P;unfold g8 at e;split at e
 ·rename_i ρ' h1;cases e;exact h F H σ ρ D _ R h1 λF' H' s R'=>P F' H' σ s R' rfl
 ·rename_i z h1;cases e;exact h F H σ ρ D _ R h1 P
 ·cases e
def gG(cls:Str)(i:Nat)(g:Str)(fe:Fn PV):Sn:=λρ=>match ir i ρ with
 |some (.obj c l)=>if c=cls/\l.lookup g=none/\l.length<1000 then eE (fe ρ) λq=>some (.nx (ρ.set i (some (.dp (.obj c (l++[(g,q)])))))) else none
 |_=>none
section
variable{K:PySem.W.Frag}{C:Cg}{te:TE}{fe:Fn PV}{cls g:Str}{Ca:Addr}
theorem ie{i:Nat}(O:OC K cls Ca)(na:eX K Ca g)(h:MD K C te fe):MSi K C (Qx K (jx i) te g) (gG cls i g fe):=by
 intro F H σ ρ D o R e P;unfold gG at e;split at e
 case h_2=>cases e
 rename_i c l hl;split at e
 case isFalse=>cases e
 rename_i hc;obtain⟨rfl,hn,hlen⟩:=hc;obtain⟨P0,d0⟩:=R.dd;obtain⟨v0,e1,dp0⟩:=d0.dp i _ (cN hl);obtain⟨T,a,Ca',dx,xs,rfl,nm,ha,sa,ht,dj,hk,hr⟩:=dp0.m6;have:=nm.ns;rw[O.ns] at this;cases this;have xl:xs.length=l.length:=by have:=Zbi List.length hk;simpa using this
 rcases bR e with⟨z,e2,rfl⟩|⟨q,e2,hq⟩
 ·exact h F H σ ρ _ _ R e2 P
 cases hq;refine h F H σ ρ _ _ R e2 λw F1 H1 S u d n=>?_;have ha1:=u.hh _ _ ha;refine⟨.ref a,e1,a,Ca,dx,xs,rfl,ha1,O.cl,na,by omega,?_⟩
 rw[zZ (lookup_none hk hn)];have R1:=R.up u;have d1:RD K C.toCf F1 H1 σ ρ P0:=d0.up u;have nS:∀ b,S b->b≠a:=λb z y=>by subst y;have:=(n b z).1;rw[ha] at this;cases this
 have nP:∀ b,S b->∀ j,¬P0 j b:=λb z j y=>by obtain⟨_,⟨o,c,_⟩,_⟩:=d0.own j b y;rw[(n b z).1] at c;cases c
 refine P F1 _ u.ff (R1.J8 d1 (cN hl) e1 sa (λys z=>by cases z) (S':=λb=>P0 i b\/S b) ?_ λb z=>?_)
 ·refine .obj (S:=λj b=>if j=xs.length then S b else j<xs.length/\T j b) nm aP (.inl sa) (λj b z=>?_) (λj k b z z'=>?_) (by rw[Za5,Za5,hk];rfl) λj x p c1 c2=>?_
  ·by_cases hj:j=xs.length
   ·simp only[hj,ZaU] at z;exact⟨.inr z,nS b z⟩
   ·simp only[hj,ZaI] at z;exact⟨.inl (ht j b z.2).1,(ht j b z.2).2⟩
  ·by_cases hj:j=xs.length<;>by_cases hk:k=xs.length
   ·rw[hj,hk]
   ·simp only[hj,hk,ZaU,ZaI] at z z';exact absurd (ht k b z'.2).1 (nP b z i)
   ·simp only[hj,hk,ZaU,ZaI] at z z';exact absurd (ht j b z.2).1 (nP b z' i)
   ·simp only[hj,hk,ZaI] at z z';exact dj j k b z.2 z'.2
  ·have tups:∀ b zs,H1 b=some (.tup zs)->upd H1 a (.ins Ca dx (xs++[(g,w)])) b=some (.tup zs):=λb zs c=>by
    rw[aM (λy=>by subst y;rw[ha1] at c;cases c)];exact c
   by_cases hj:j<xs.length
   ·rw[Zan hj] at c1;rw[Zan (by omega)] at c2
    simp only[show ¬j=xs.length by omega,ZaI]
    exact(((hr j x p c1 c2).stay u).up (aL.refl _) (λb o z c=>by rw[aM (ht j b z).2];exact c) tups).mono λb z=>⟨hj,z⟩
   ·rw[Zap (by omega)] at c1
    rw[Zap (by omega)] at c2
    have ej:j=xs.length:=by
     have:=cg c1;simp at this;omega
    subst ej;rw[Nat.sub_self] at c1;rw[xl,Nat.sub_self] at c2;cases c1;cases c2;simp only[ZaU];exact d.up (aL.refl _) (λb o z c=>by rw[aM (nS b z)];exact c) tups
 ·rcases z with z|z
  ·exact .inl z
  ·obtain⟨n0,n1,n2⟩:=n b z;exact .inr ⟨n1,n2,(d0.own i a sa).2.2.1,R.rb.qK n0,nP b z,λj q f g=>R.apart n0 j q f g⟩
end
def jD(H:Hp)(S:Addr->Prop):Hp:=λb=>@ite _ (S b) (Classical.propDecidable _) none (H b)
theorem m7{H:Hp}{S:Addr->Prop}{b:Addr}(h:S b):jD H S b=none:=@if_pos _ (Classical.propDecidable _) h _ _ _
theorem dH{H:Hp}{S:Addr->Prop}{b:Addr}(h:¬S b):jD H S b=H b:=@if_neg _ (Classical.propDecidable _) h _ _ _
structure SUp(S:Addr->Prop)(F H F' H':Hp):Prop where
 ff:aL F F'
 hb:∀ b o,H b=some o->¬S b->H' b=some o
 fr:∀ b o,F' b=some o->F b=some o\/Frz H b o\/S b
 fh:aL F' H'
def Rm(S:Addr->Prop)(F H:Hp):Prop:=∀ b,S b->F b=none/\∃ o,H b=some o/\∀ ys,o≠.tup ys
def spW(K:PySem.W.Frag)(m:List PV->Option (Res PV)):Sp:=λvs H Q E=>∃ v args p ps F S r,vs=v::args/\aL F H/\Dp K F H S v p/\Rm S F H/\bz K F args ps/\m (p::ps)=some r/\match r with
 |.ok (.tup [q,p'])=>∀ w F' H' S',SUp S F H F' H'->Dp K F' H' S' v p'->(∀ b,S' b->S b\/H b=none)->Rm S' F' H'->Rep K F' w q->Q w H'
 |.ok _=>False
 |.ex z=>∀ e d F' H',Up F H F' H'->XRS K F' e d z->E e d H'
section
variable{K:PySem.W.Frag}{C:Cg}{t u:TS}{N:List Str}{vs args:List V}{H F:Hp}{Q:VK}{E:XK}{m:List PV->Option (Res PV)}{b f g:Sn}{n:Nat}{ps:List PV}{v:V}{p:PV}{S:Addr->Prop}{te:TE}
theorem rT(h:spW K m vs H Q E){k:Nat}(hm:∀ ps r,m ps=some r->ps.length=k):vs.length=k:=by
 obtain⟨v,args,p,ps,F,S,r,rfl,_,_,_,rp,e,_⟩:=h;rw[<-hm _ _ e,Zax,Zax,rp.1]
theorem vW{ps:List PV}{n i:Nat}{s:Sl}(e:(startR ps n)[i]?=some (some s)):∃ p,s=.sh p:=by
 unfold startR at e;by_cases hi:i<ps.length
 ·rw[Zan (by simpa using hi),Zai] at e
  cases h:ps[i]? with
  |none=>rw[h] at e;cases e
  |some q=>rw[h] at e;cases e;exact⟨_,rfl⟩
 ·rw[Zap (by simpa using hi),ZaK] at e
  split at e<;>cases e
noncomputable abbrev lQ(p:PV)(ps:List PV)(n:Nat):Rho:=some (.dp p)::startR ps n
theorem vX(s:aL F H)(d:Dp K F H S v p)(rm:Rm S F H)(r:bz K F args ps)(hN:N.length=args.length+1+n):RE K ⟨λ_=>False,True,jD H S,F,E⟩ F H (start N (v::args)) (lQ p ps n):=by
 obtain⟨y,N',rfl⟩:∃ y N',N=y::N':=by
  cases N with
  |nil=>simp at hN;omega
  |cons y N'=>exact⟨y,N',rfl⟩
 have R:=lG (E:=E) (N:=N') (n:=n) s r (by simp at hN;omega)
 have st:start (y::N') (v::args)=some v::start N' args:=by unfold start;simp
 rw[st];have no:∀ {i:Nat}{q:PV},(lQ p ps n)[i]?≠some (some (.ow q)):=λ{i q} e=>by
  cases i with
  |zero=>cases e
  |succ i=>obtain⟨_,z⟩:=vW (show(startR ps n)[i]?=_ from e);cases z
 refine⟨⟨s,λb o q _=>?_,λ_ _ h=>.inl h,λ_ h=>h.elim⟩,by simp[R.len],λi q e=>?_,λi q e=>absurd e no,λi k q q' a e=>absurd e no,⟨λj b=>j=0/\S b,λi b z=>?_,λi j b z z'=>by rw[z.1,z'.1],λi j q b z e=>absurd e no,λi q e=>?_⟩⟩
 ·have q:jD H S b=some o:=q;by_cases hb:S b
  ·rw[m7 hb] at q;cases q
  ·rw[dH hb] at q;exact q
 ·cases i with
  |zero=>cases e
  |succ i=>exact R.sh i q e
 ·exact⟨(rm b z.2).1,(rm b z.2).2,trivial,m7 z.2⟩
 ·cases i with
  |zero=>cases e;exact⟨v,rfl,d.mono λb z=>⟨rfl,z⟩⟩
  |succ i=>obtain⟨_,z⟩:=vW (show(startR ps n)[i]?=_ from e);cases z
theorem CV{E:XK}{F' H':Hp}(s:aL F F')(rb:RB ⟨λ_=>False,True,jD H S,F,E⟩ F' H'):SUp S F H F' H':=
 ⟨s,λb o q hb=>rb.keep b o (show jD H S b=some o by rw[dH hb];exact q) id,λb o q=>by
  rcases rb.new b o q with z|z|z
  ·exact .inl z
  ·by_cases hb:S b
   ·exact .inr (.inr hb)
   ·have z:jD H S b=none:=z;rw[dH hb] at z;exact .inr (.inl (.inl z))
  ·exact .inr (.inl (.inr z)),rb.sub⟩
theorem xP{c:Addr}(z:jD H S c=none):S c\/H c=none:=by
 by_cases hb:S c
 ·exact .inl hb
 ·rw[dH hb] at z;exact .inr z
def RC:Option Out->Option (Res PV)
 |some (.nx ρ)=>match ir 0 ρ with
  |some p=>some (.ok (.tup [.non,p]))
  |none=>none
 |_=>none
def Km:Option Out->Option (Res PV)
 |some (.rt r)=>some (.ok r)
 |_=>none
theorem Ko{k:Nat}(hk:N.length=k+1+n)(hm:∀ ps r,m ps=some r->∃ p qs,ps=p::qs/\qs.length=k/\RC (b (lQ p qs n))=some r)(h:spW K m vs H Q E)(hS:∀ (io:Addr->Prop) (H0 F0:Hp),(∀ a,¬io a)->MSk K (C0 io H0 F0) 0 t b) :
  t { nx:=λ_ H'=>Q .non H',rt:=Q } (start N vs) H:=by
 obtain⟨v,args,p,ps,F,S,r,rfl,s,d,rm,rp,e,P⟩:=h;obtain⟨p',qs,ee,hl,e⟩:=hm _ _ e;cases ee;have R:=vX (E:=E0) (N:=N) (n:=n) s d rm rp (by rw[rp.1,hl];exact hk)
 have M:=hS (λ_=>False) (jD H S) F (λ_ h=>h);have hst:(start N (v::args))[0]?=some (some v):=lH rfl;cases ho:b (lQ p ps n) with
 |none=>rw[ho] at e;cases e
 |some o=>
  rw[ho] at e;cases o with
  |nx ρ=>
   refine M F H _ _ _ _ R ho λF' H' σ' s' R' es=>?_;have e:(match ir 0 ρ with|some p=>some (Res.ok (PV.tup [.non,p]))|none=>none)=some r:=e
   split at e
   ·rename_i p1 hp;cases e;obtain⟨P1,d1⟩:=R'.dd;obtain⟨v1,e1,dp1⟩:=d1.dp 0 _ (cN hp);rw[es,hst] at e1;cases e1;exact P .non F' H' (P1 0) (CV s' R'.rb) dp1 (λb z=>xP (d1.own 0 b z).2.2.2) (λb z=>⟨(d1.own 0 b z).1,(d1.own 0 b z).2.1⟩) .non
   ·cases e
  |ex z=>cases e
  |_=>cases e
def POW(K:PySem.W.Frag)(C:Cg)(F:Hp)(D:Ends)(v:V):Out->Prop
 |.rt (.tup [q,p'])=>∀ w F' H' S',aL F F'->RB C.toCf F' H'->Dp K F' H' S' v p'->(∀ b,S' b->F' b=none/\(∃ o,H' b=some o/\∀ ys,o≠.tup ys)/\C.H0 b=none)->Rep K F' w q->D.rt w H'
 |_=>False
def Nv(K:PySem.W.Frag)(C:Cg)(t:TS)(f:Sn):Prop:=∀ F H σ ρ D o v,RE K C.toCf F H σ ρ->σ[0]?=some (some v)->f ρ=some o->POW K C F D v o->t D σ H
def Fq(fe:Fn PV):Sn:=λρ=>eE (fe ρ) λq=>match ir 0 ρ with
 |some p=>some (.rt (.tup [q,p]))
 |none=>none
theorem POW.up{F1:Hp}{D:Ends}{o:Out}(h:POW K C F D v o)(s:aL F F1):POW K C F1 D v o:=by
 unfold POW at h ⊢;split at h
 ·exact λw F' H' S' s'=>h w F' H' S' (s.trans s')
 ·exact h.elim
theorem z7(h1:MSk K C 0 t f)(h2:Nv K C u g):Nv K C (Gr t u) (nA f g):=by
 intro F H σ ρ D o v R ev e P;unfold nA at e;split at e
 ·rename_i ρ' h;exact h1 F H σ ρ _ _ R h λF' H' σ' s R' es=>h2 F' H' σ' ρ' D o v R' (by rw[es];exact ev) e (P.up s)
 ·cases e
theorem Kp{fe:Fn PV}(h:MJ K C (aF K) te fe):Nv K C (Gs te) (Fq fe):=by
 intro F H σ ρ D o v R ev e P;rcases bR e with⟨z,e1,rfl⟩|⟨q,e1,hk⟩
 ·exact P.elim
 refine h F H σ ρ _ _ R e1 λw F1 H1 u1 a=>?_;split at hk
 ·rename_i p hp;cases hk;obtain⟨P1,d1⟩:=(R.up u1).dd;obtain⟨v1,e1,dp1⟩:=d1.dp 0 _ (cN hp);rw[ev] at e1;cases e1;exact P w F1 H1 (P1 0) u1.ff (R.rb.up u1) dp1 (λb z=>⟨(d1.own 0 b z).1,(d1.own 0 b z).2.1,(d1.own 0 b z).2.2.2⟩) a
 ·cases hk
theorem Kq{k:Nat}(hk:N.length=k+1+n)(hm:∀ ps r,m ps=some r->∃ p qs,ps=p::qs/\qs.length=k/\Km (b (lQ p qs n))=some r)(h:spW K m vs H Q E)(hS:∀ (io:Addr->Prop) (H0 F0:Hp),(∀ a,¬io a)->Nv K (C0 io H0 F0) t b) :
  t { nx:=λ_ H'=>Q .non H',rt:=Q } (start N vs) H:=by
 obtain⟨v,args,p,ps,F,S,r,rfl,s,d,rm,rp,e,P⟩:=h;obtain⟨p',qs,ee,hl,e⟩:=hm _ _ e;cases ee;have R:=vX (E:=E0) (N:=N) (n:=n) s d rm rp (by rw[rp.1,hl];exact hk)
 have M:=hS (λ_=>False) (jD H S) F (λ_ h=>h);cases ho:b (lQ p ps n) with
 |none=>rw[ho] at e;cases e
 |some o=>
  rw[ho] at e;cases o with
  |rt r=>
   cases e;refine M F H _ _ _ _ v R (lH rfl) ho ?_;unfold POW;split
   ·rename_i q p1 hq;cases hq;exact λw F' H' S' s' rb dp1 rm1 rw1=>P w F' H' S' (CV s' rb) dp1 (λb z=>xP (rm1 b z).2.2) (λb z=>⟨(rm1 b z).1,(rm1 b z).2.1⟩) rw1
   ·rename_i hn
    match r,P,hn with
    |.tup [q,p1],P,hn=>exact hn q p1 rfl
  |nx ρ=>cases e
  |ex z=>cases e
  |_=>cases e
end
section
variable{K:PySem.W.Frag}{F H F' H':Hp}{σ:St}{ρ:Rho}{v:V}{p':PV}
theorem RE.Kr{C:Cf}(R:RE K C F H σ ρ)(nw:C.nw){P:Nat->Addr->Prop}(d:RD K C F H σ ρ P){i:Nat}(e1:σ[i]?=some (some v)){S':Addr->Prop}(u:SUp (P i) F H F' H')(dp:Dp K F' H' S' v p')(hS:∀ b,S' b->P i b\/H b=none)(rm:Rm S' F' H') :
  RE K C F' H' σ (ρ.set i (some (.dp p'))):=by
 have out:∀ {b:Addr}{o:HO},H b=some o->(∀ ys,o≠.tup ys)->F b=none->¬P i b->F' b=none:=λ{b o} h1 h2 h3 h4=>by
  cases e:F' b with
  |none=>rfl
  |some o'=>
   rcases u.fr b o' e with z|z|z
   ·rw[h3] at z;cases z
   ·rcases z with z|⟨ys,z⟩
    ·rw[h1] at z;cases z
    ·subst z;have:=u.fh _ _ e;rw[u.hb b o h1 h4] at this;cases this;exact absurd rfl (h2 ys)
   ·exact absurd z h4
 refine⟨⟨u.fh,λb o q z=>?_,λb o q=>?_,λb z=>?_⟩,by simp[R.len],λj q f=>?_,λj q f=>?_,λj k q q' b f f' g g'=>?_,⟨λj b=>if j=i then S' b else P j b,λj b z=>?_,λj k b z z'=>?_,λj k q b z f g=>?_,λj q f=>?_⟩⟩
 ·exact u.hb b o (R.rb.keep b o q z) λy=>by rw[(d.own i b y).2.2.2] at q;cases q
 ·rcases u.fr b o q with z|z|z
  ·exact R.rb.new b o z
  ·exact .inr (z.imp (λz=>R.rb.qK z) id)
  ·exact .inr (.inl (d.own i b z).2.2.2)
 ·obtain⟨h1,h2⟩:=R.rb.ios b z;refine⟨?_,h2⟩;cases e:H b with
  |none=>exact absurd e h1
  |some o=>rw[u.hb b o e λy=>h2 (d.own i b y).2.2.2];simp
 ·rcases get_set f with⟨f1,f2⟩|⟨f1,f2⟩
  ·cases f2
  ·obtain⟨w,g1,g2⟩:=R.sh j q f2;exact⟨w,g1,g2.up u.ff⟩
 ·rcases get_set f with⟨f1,f2⟩|⟨f1,f2⟩
  ·cases f2
  ·obtain⟨b,g1,g2,g3,g4⟩:=R.ow j q f2;have nb:¬P i b:=λz=>d.ow i j q b z f2 g1;obtain⟨ob,eob⟩:=g2.ne;exact⟨b,g1,g2.up u.ff λo z=>u.hb b o z nb,out eob (λys z=>by subst z;exact g2.qJ eob) g3 nb,g4⟩
 ·rcases get_set f with⟨f1,f2⟩|⟨f1,f2⟩
  ·cases f2
  ·rcases get_set f' with⟨f1',f2'⟩|⟨f1',f2'⟩
   ·cases f2'
   ·exact R.dis j k q q' b f2 f2' g g'
 ·by_cases hj:j=i
  ·simp only[hj,ZaU] at z;refine⟨(rm b z).1,(rm b z).2,nw,?_⟩;rcases hS b z with y|y
   ·exact(d.own i b y).2.2.2
   ·exact R.rb.qK y
  ·simp only[hj,ZaI] at z;obtain⟨k1,⟨o,k2,k3⟩,k4⟩:=d.own j b z;have nb:¬P i b:=λy=>hj (d.dis j i b z y);exact⟨out k2 k3 k1 nb,⟨o,u.hb b o k2 nb,k3⟩,k4⟩
 ·have ne:∀ j b,P j b->H b≠none:=λj b z y=>by obtain⟨_,⟨o,c,_⟩,_⟩:=d.own j b z;rw[y] at c;cases c
  by_cases hj:j=i<;>by_cases hk:k=i
  ·rw[hj,hk]
  ·simp only[hj,hk,ZaU,ZaI] at z z';rcases hS b z with y|y
   ·rw[hj];exact d.dis i k b y z'
   ·exact absurd y (ne k b z')
  ·simp only[hj,hk,ZaU,ZaI] at z z';rcases hS b z' with y|y
   ·rw[hk];exact d.dis j i b z y
   ·exact absurd y (ne j b z)
  ·simp only[hj,hk,ZaI] at z z';exact d.dis j k b z z'
 ·rcases get_set f with⟨f1,f2⟩|⟨f1,f2⟩
  ·cases f2
  ·by_cases hj:j=i
   ·simp only[hj,ZaU] at z;rcases hS b z with y|y
    ·exact d.ow i k q b y f2 g
    ·exact R.apart y k q f2 g
   ·simp only[hj,ZaI] at z;exact d.ow j k q b z f2 g
 ·rcases get_set f with⟨f1,f2⟩|⟨f1,f2⟩
  ·subst f1;cases f2;exact⟨v,e1,by simpa using dp⟩
  ·obtain⟨w,g1,g2⟩:=d.dp j q f2;refine⟨w,g1,?_⟩;have hj:¬j=i:=λz=>f1 z.symm;simp only[hj,ZaI];exact g2.up u.ff (λb o z y=>u.hb b o y λx=>hj (d.dis j i b z x)) λb ys y=>u.hb b _ y λx=>by obtain⟨_,⟨o,c,c3⟩,_⟩:=d.own i b x;rw[y] at c;cases c;exact c3 ys rfl
end
def Ft(cls:Str)(m:List PV->Option (Res PV))(f:Fn (List PV)):Fn PV:=λρ=>bnd (f ρ) λl=>match m (.obj cls []::l) with
 |some (.ok (.tup [.non,p]))=>some (.ok p)
 |_=>none
section
variable{K:PySem.W.Frag}{C:Cg}{t:TA}{f fs:Fn (List PV)}{m:List PV->Option (Res PV)}{cls mn:Str}{Ca:Addr}{E:XK}{i:Nat}
theorem Ny(nm:XNm K Ca cls)(h:MA K C t f):MD K C (Jg Ca (spW K m) [] E t) (Ft cls m f):=by
 intro F H σ ρ Q r R e P;refine h.run R e P λl xs F1 H1 hk u a=>λx dx nx nd ne=>?_;split at hk
 case h_2=>cases hk
 rename_i p hm;cases hk;rw[Zaz];have h2:∀ {b:Addr},b≠x->b≠dx->upd (upd H1 dx (.own x)) x (.ins Ca dx []) b=H1 b:=λhx hd=>by rw[aM hx,aM hd]
 have s2:aL H1 (upd (upd H1 dx (.own x)) x (.ins Ca dx [])):=λb o q=>by
  rw[h2 (λz=>by subst z;rw[nx] at q;cases q) (λz=>by subst z;rw[nd] at q;cases q)];exact q
 have fx:F1 x=none:=u.fh.free nx;refine⟨.ref x,xs,.obj cls [],l,F1,λb=>b=x,_,rfl,u.fh.trans s2,.obj (S:=λ_ _=>False) nm aP rfl (λj b z=>z.elim) (λi j b z=>z.elim) rfl (λj y q z=>by simp at z),λb z=>by subst z;exact⟨fx,_,aP,λys z=>by cases z⟩,a,hm,λw F' H' S' su dp hS rm rw'=>⟨rw'.du,?_⟩⟩
 have hx0:H x=none:=u.hh.free nx;have back:∀ b,upd (upd H1 dx (.own x)) x (.ins Ca dx []) b=none->H b=none:=λb q=>u.hh.free (s2.free q);refine P (.ref x) F' H' S' ⟨u.ff.trans su.ff,λb o q=>?_,λb o q=>?_,su.fh⟩ dp λb z=>⟨?_,(rm b z).1,(rm b z).2⟩
 ·exact su.hb b o (s2 b o (u.hh b o q)) λz=>by subst z;rw[hx0] at q;cases q
 ·rcases su.fr b o q with z|z|z
  ·exact u.fr b o z
  ·exact .inr (z.imp (back b) id)
  ·subst z;exact .inr (.inl hx0)
 ·rcases hS b z with y|y
  ·subst y;exact hx0
  ·exact back b y
def lR(cls mn:Str)(i:Nat)(m:List PV->Option (Res PV))(fs:Fn (List PV)):Sn:=λρ=>match ir i ρ with
 |some (.obj c l)=>if c=cls/\l.lookup mn=none then eE (fs ρ) λxs=>match m (.obj c l::xs) with
  |some (.ok (.tup [.non,p']))=>some (.nx (ρ.set i (some (.dp p'))))
  |some (.ex z)=>some (.ex z)
  |_=>none else none
 |_=>none
theorem z8{F H:Hp}{σ:St}{ρ:Rho}{o:Out}{Q:VK}(O:OC K cls Ca)(nw:C.nw)(hs:MA K C t fs)(R:RE K C.toCf F H σ ρ)(e:lR cls mn i m fs ρ=some o)
  (ho:∀ ρ',o=.nx ρ'->∀ w F' H',aL F F'->RE K C.toCf F' H' σ ρ'->w=.non->Q w H')(hx:∀ z,o=.ex z->fs ρ≠some (.ex z))(he:∀ z,o=.ex z->∀ e d F' H',Up F H F' H'->XRS K F' e d z->E e d H') :
  qG Ca mn (spW K m) [] E (jx i) t σ H Q:=by
 unfold lR at e;split at e
 case h_2=>cases e
 rename_i c l hl;split at e
 case isFalse=>cases e
 rename_i hc;obtain⟨rfl,hn⟩:=hc;obtain⟨P0,d0⟩:=R.dd;obtain⟨v0,e1,dp0⟩:=d0.dp i _ (cN hl);obtain⟨T,a,Ca',dx,xs,rfl,nm,ha,sa,ht,dj,hk,hr⟩:=dp0.m6;have:=nm.ns;rw[O.ns] at this;cases this;refine⟨.ref a,e1,a,dx,xs,rfl,ha,lookup_none hk hn,?_⟩;rcases bR e with⟨z,e2,rfl⟩|⟨ls,e2,hq⟩
 ·exact absurd e2 (hx z rfl)
 refine hs F H σ ρ _ _ R e2 λys F1 H1 u rl=>?_;rw[Zaz];have R1:=R.up u;have d1:RD K C.toCf F1 H1 σ ρ P0:=d0.up u;obtain⟨v1,e1',dp1⟩:=d1.dp i _ (cN hl);rw[e1] at e1';cases e1';have rm1:Rm (P0 i) F1 H1:=λb z=>⟨(d1.own i b z).1,(d1.own i b z).2.1⟩;split at hq
 ·rename_i p' hm;cases hq;exact⟨.ref a,ys,_,ls,F1,P0 i,_,rfl,u.fh,dp1,rm1,rl,hm,λw F' H' S' su dp hS rm rw'=>ho _ rfl w F' H' (u.ff.trans su.ff) (R1.Kr nw d1 e1 su dp hS rm) rw'.du⟩
 ·rename_i z hm;cases hq;exact⟨.ref a,ys,_,ls,F1,P0 i,_,rfl,u.fh,dp1,rm1,rl,hm,λe d F' H' u' x=>he z rfl e d F' H' (u.trans u') x⟩
 ·cases hq
def uo(cls mn:Str)(i:Nat)(m:List PV->Option (Res PV))(fs:Fn (List PV)):Sn:=λρ=>match lR cls mn i m fs ρ with
 |some (.nx ρ')=>some (.nx ρ')
 |_=>none
theorem Ks(O:OC K cls Ca)(nw:C.nw)(hs:MA K C t fs):MSi K C (qz (qG Ca mn (spW K m) [] E (jx i) t)) (uo cls mn i m fs):=by
 intro F H σ ρ D o R e P;unfold uo at e;split at e
 ·rename_i ρ' h;cases e;exact z8 O nw hs R h (λρ2 e2 w F' H' s' R' _=>by cases e2;exact P F' H' s' R') (λz e2=>by cases e2) λz e2=>by cases e2
 ·cases e
def uq(cls mn:Str)(i:Nat)(m:List PV->Option (Res PV))(fs:Fn (List PV)):Sn:=λρ=>match fs ρ with
 |some (.ok _)=>lR cls mn i m fs ρ
 |_=>none
end
def T3(K:PySem.W.Frag)(C:Cg)(tb:XK->TS)(b:Sn):Prop:=∀ E F H σ ρ D o,RE K C.toCf F H σ ρ->b ρ=some o->(∀ ρ',o=.nx ρ'->∀ F' H',aL F F'->RE K C.toCf F' H' σ ρ'->D.nx σ H')->(∀ z,o=.ex z->∀ e d F' H',Up F H F' H'->XRS K F' e d z->E e d H')->(∃ ρ',o=.nx ρ')\/(∃ z,o=.ex z)->tb E D σ H
section
variable{K:PySem.W.Frag}{C:Cg}{t:TA}{fs:Fn (List PV)}{m:List PV->Option (Res PV)}{cls mn:Str}{Ca:Addr}{E:XK}{i:Nat}
theorem Ht(O:OC K cls Ca)(nw:C.nw)(hs:MA K (Cq C) t fs):T3 K C (λE=>qz (qG Ca mn (spW K m) [] E (jx i) t)) (uq cls mn i m fs):=by
 intro E F H σ ρ D o R e hn hx _;unfold uq at e;split at e
 ·rename_i l hl;exact z8 (C:=Cq C) O nw hs R e (λρ2 e2 w F' H' s' R' _=>hn ρ2 e2 F' H' s' R') (λz _ e3=>by rw[hl] at e3;cases e3) hx
 ·cases e
def Nz(K:PySem.W.Frag)(C:Cg)(k:Nat)(th:THs)(h:PV->Sn):Prop:=∀ F H σ ρ D o z ev d,RE K C.toCf F H σ ρ->XRS K F ev d z->h z ρ=some o->POk K C F D k (σ[k]?) o->th ev d D σ H
def ur(b:Sn)(h:PV->Sn):Sn:=λρ=>match b ρ with
 |some (.ex z)=>h z ρ
 |some (.nx ρ')=>some (.nx ρ')
 |_=>none
theorem NB{k:Nat}{tb:XK->TS}{th:THs}{b:Sn}{h:PV->Sn}(hb:T3 K C tb b)(hh:Nz K C k th h):MSk K C k (TQ tb th) (ur b h):=by
 intro F H σ ρ D o R e P;unfold ur at e;split at e
 ·rename_i z hz;refine hb _ F H σ ρ D (.ex z) R hz (λ_ e2=>by cases e2) (λz2 e2 ev d F' H' u x=>?_) (.inr ⟨z,rfl⟩)
  cases e2;exact hh F' H' σ ρ D o z ev d (R.up u) x e (POk.up P u.ff)
 ·rename_i ρ' hz;cases e;exact hb _ F H σ ρ D _ R hz (λρ2 e2 F' H' s' R'=>by cases e2;exact P F' H' σ s' R' rfl) (λz e2=>by cases e2) (.inl ⟨_,rfl⟩)
 ·cases e
theorem NK{k:Nat}:Nz K C k TF PB:=λ_ _ _ _ _ _ _ _ _ _ _ e=>by cases e
theorem RG{k:Nat}{T:Addr}{tn:Str}{i:Nat}{ts:TS}{tr:THs}{sub:Str->Option Bool}{suite:Sn}{rest:PV->Sn}(hik:i≠k)(hT:nsIn K mainGlobals tn=some (some (.ref T)))(hsub:∀ c b,sub c=some b->PJ K c tn b)
  (hs:MSk K C k ts suite)(hr:Nz K C k tr rest):Nz K C k (hAs K T i ts tr) (Nh sub i suite rest):=by
 intro F H σ ρ D o z ev d R x e P;obtain⟨c,l,Ca,rfl,rfl,nm,fx⟩:=id x;unfold Nh at e;dsimp only at e;split at e
 ·rename_i hb;obtain⟨Ca',T',h1,h2,h3⟩:=hsub c _ hb;rw[nm.ns] at h1;cases h1;rw[hT] at h2;cases h2;refine⟨Ca,true,rfl,h3,?_⟩;rw[Zae rfl];intro a na;have u:Up F H (upd F a (XO a Ca d)) (upd H a (XO a Ca d)):=Up.new R.rb.sub na;have rep:Rep K (upd F a (XO a Ca d)) (.ref a) (.exc c l):=by
   rcases fx with⟨rfl,rfl⟩|⟨dx,xs,rfl,_,hd,hl,hr'⟩
   ·exact .exc0 nm aP
   ·exact .exc nm aP (u.ff _ _ hd) hl λj x p a b=>(hr' j x p a b).up u.ff
  have k1:∀ (s:St) (w:Option V),(s.set i w)[k]?=s[k]?:=λs w=>Zac hik;cases ho:suite (ρ.set i (some (.sh (.exc c l)))) with
  |none=>rw[ho] at e;cases e
  |some oo=>
   rw[ho] at e;refine hs _ _ _ _ (Ends.gone D i) oo ((R.up u).set i rep) ho ?_;cases oo with
   |nx ρ'=>cases e;exact λF' H' σ' s' R' es=>P F' H' _ (u.ff.trans s') (R'.gone i) (by rw[k1,es,k1])
   |bk ρ'=>cases e;exact λF' H' σ' s' R' es=>P F' H' _ (u.ff.trans s') (R'.gone i) (by rw[k1,es,k1])
   |ct ρ'=>cases e;exact λF' H' σ' s' R' es=>P F' H' _ (u.ff.trans s') (R'.gone i) (by rw[k1,es,k1])
   |rt p=>cases e;exact λv F' H' s' rb rv=>P v F' H' (u.ff.trans s') rb rv
   |ro p=>cases e;exact λv F' H' s' rb rv=>P v F' H' (u.ff.trans s') rb rv
   |rd p=>cases e;exact λv F' H' S s'=>P v F' H' S (u.ff.trans s')
   |ex z=>cases e;exact PX.up P u.ff
 ·rename_i hb;obtain⟨Ca',T',h1,h2,h3⟩:=hsub c _ hb;rw[nm.ns] at h1;cases h1;rw[hT] at h2;cases h2;refine⟨Ca,false,rfl,h3,?_⟩;rw[Zaf (by decide)]
  exact hr F H σ ρ D o _ _ _ R x e P
 ·cases e
def vY(i:Nat)(m:List PV->Option (Res PV))(fs:Fn (List PV)):Fe PV:=λρ=>match ir i ρ with
 |some p=>bnd (fs ρ) λxs=>match m (p::xs) with
  |some (.ok (.tup [q,p']))=>some (.ok (q,ρ.set i (some (.dp p'))))
  |_=>none
 |none=>none
theorem NP(nw:C.nw)(hs:MA K C t fs):MEJ K C (nu (spW K m) [] E (eY (jx i) t)) (vY i m fs):=by
 intro F H σ ρ Q r R e P;unfold vY at e;split at e
 case h_2=>cases e
 rename_i p hp;obtain⟨P0,d0⟩:=R.dd;obtain⟨v0,e1,dp0⟩:=d0.dp i _ (cN hp);refine⟨v0,e1,?_⟩;rcases bx e with⟨z,e2,rfl⟩|⟨ls,e2,hq⟩
 ·exact hs F H σ ρ _ _ R e2 P
 refine hs F H σ ρ _ _ R e2 λys F1 H1 u rl=>?_;show spW K m ((v0::ys)++[]) H1 Q E
 rw[Zaz];have R1:=R.up u;have d1:RD K C.toCf F1 H1 σ ρ P0:=d0.up u;obtain⟨v1,e1',dp1⟩:=d1.dp i _ (cN hp);rw[e1] at e1';cases e1';split at hq
 ·rename_i q p' hm;cases hq;exact⟨v0,ys,p,ls,F1,P0 i,_,rfl,u.fh,dp1,λb z=>⟨(d1.own i b z).1,(d1.own i b z).2.1⟩,rl,hm,λw F' H' S' su dp hS rm rw'=>P F' H' (u.ff.trans su.ff) (R1.Kr nw d1 e1 su dp hS rm) w rw'⟩
 ·cases hq
end
def CW:List (Str×PV)->Str->PV->List (Str×PV)
 |[],_,_=>[]
 |(k,v)::l,g,q=>if(g==k)=true then(k,q)::l else(k,v)::CW l g q
theorem uv{g:Str}{q:PV}:∀ {xs:List (Str×V)}{l:List (Str×PV)},xs.map (·.1)=l.map (·.1)->l.lookup g=some q->∃ j y,xs.lookup g=some y/\xs[j]?=some (g,y)/\l[j]?=some (g,q)/\∀ q',CW l g q'=l.set j (g,q')
 |[],[],_,e=>by simp at e
 |[],_::_,h,_=>by simp at h
 |_::_,[],h,_=>by simp at h
 |(k,v)::xs,(k',p)::l,h,e=>by
  simp only[ZaA,ZbF] at h;obtain⟨rfl,h⟩:=h;by_cases hg:(g==k)=true
  ·simp only[List.lookup,hg] at e;cases e;obtain rfl:=eq_of_beq hg;exact⟨0,v,by simp only[List.lookup,hg],rfl,rfl,λq'=>by simp only[CW,hg,ZaU];rfl⟩
  ·rw[Zbh] at hg;simp only[List.lookup,hg] at e;obtain⟨j,y,e1,e2,e3,e4⟩:=uv h e;exact⟨j+1,y,by simp only[List.lookup,hg];exact e1,e2,e3,λq'=>by simp only[CW,hg,Zbl,ZaI,e4 q'];rfl⟩
def uw(cls:Str)(i:Nat)(g:Str)(fe fk:Fn PV):Sn:=λρ=>eE (fe ρ) λp=>match ir i ρ with
 |some (.obj c l)=>if c=cls then match l.lookup g with
  |some (.dk d)=>if p.flat=true/\(d.all λkv=>kv.2.flat)=true then eE (fk ρ) λk=>match Cr (.dk d) k p with
   |some (.dk d')=>some (.nx (ρ.set i (some (.dp (.obj c (CW l g (.dk d')))))))
   |_=>none else none
  |_=>none else none
 |_=>none
section
variable{K:PySem.W.Frag}{C:Cg}{te tb:TE}{fe fk:Fn PV}{cls g:Str}{Ca:Addr}{F H:Hp}{S:Addr->Prop}
theorem Hu{a:Addr}{c:List (Key×PV)}(fl:∀ kv∈c,kv.2.flat=true)(d:Dp K F H S (.ref a) (.dk c)):∃ xs,H a=some (.dK xs)/\S a/\∀ F2 H2:Hp,H2 a=some (.dK xs)->Own K F2 H2 a (.dk c):=by
 obtain⟨T,a',xs,e,ha,sa,ht,dj,hl,hr⟩:=d.J9;cases e;refine⟨xs,ha,sa,λF2 H2 h2=>⟨xs,h2,hl,λj x p e1 e2=>(hr j x p e1 e2).Nb (fl p (Zao e2))⟩⟩
theorem CZ{p:PV}(h:p.flat=true):p.still=true:=by
 cases p<;>first|rfl|cases h
theorem qd{k:Key}{p:PV}(hp:p.flat=true):∀ {l:List (Key×PV)},(∀ kv∈l,kv.2.flat=true)->∀ kv∈dG l k p,kv.2.flat=true
 |[],_,kv,h=>by
  have:kv=(k,p):=by simpa[dG] using h
  rw[this];exact hp
 |(k',q)::l,fl,kv,h=>by
  unfold dG at h;split at h
  ·rcases ZaB.mp h with h|h
   ·rw[h];exact hp
   ·split at h
    ·exact qd hp (λkv z=>fl kv (Zat _ z)) kv h
    ·exact fl kv (Zat _ h)
  ·rcases ZaB.mp h with h|h
   ·rw[h];exact fl _ ZaO
   ·exact qd hp (λkv z=>fl kv (Zat _ z)) kv h
theorem vZ{i:Nat}(O:OC K cls Ca)(na:eX K Ca g)(he:MJ K C (aF K) te fe)(hk:MJ K C (aF K) tb fk):MSi K C (Jv (Lz K (jx i) g) tb te) (uw cls i g fe fk):=by
 intro F H σ ρ D o R e P;rcases bR e with⟨z,e0,rfl⟩|⟨p,e0,hk1⟩
 ·exact he F H σ ρ _ _ R e0 P
 refine he F H σ ρ _ _ R e0 λv F1 H1 u a=>?_;split at hk1
 case h_2=>cases hk1
 rename_i c l hl;split at hk1
 case isFalse=>cases hk1
 rename_i hc;subst hc;split at hk1
 case h_2=>cases hk1
 rename_i d hg;split at hk1
 case isFalse=>cases hk1
 rename_i hfl;obtain⟨pf,df⟩:=hfl;have df:=Zay.mp df;obtain⟨P0,d0⟩:=(R.up u).dd;obtain⟨v0,e1,dp0⟩:=d0.dp i _ (cN hl);obtain⟨T,b,Ca',dx,xs,rfl,nm,ha,sa,ht,dj,hkk,hr⟩:=dp0.m6;have:=nm.ns;rw[O.ns] at this;cases this;obtain⟨j,y,x1,x2,x3,x4⟩:=uv hkk hg;refine⟨.ref b,e1,b,Ca,dx,xs,y,rfl,ha,O.cl,na,x1,?_⟩;rcases bR hk1 with⟨z,e2,rfl⟩|⟨k,e2,hk2⟩
 ·exact hk F1 H1 σ ρ _ _ (R.up u) e2 (PX.up P u.ff)
 refine hk F1 H1 σ ρ _ _ (R.up u) e2 λyk F2 H2 u2 rk=>?_;split at hk2
 case h_2=>cases hk2
 rename_i d' hd';cases hk2;have R2:=(R.up u).up u2;have d2:RD K C.toCf F2 H2 σ ρ P0:=d0.up u2;have ch:=(hr j _ _ x2 x3).stay u2;obtain⟨_,w,_,ew,_⟩:=ch.J9
 change y=.ref w at ew
 subst ew;obtain⟨ys,hw,tw,own⟩:=Hu df ch;obtain⟨ob,dput,ow'⟩:=Ex u2.fh (own F2 H2 hw) rk (Rep.up a u2.ff) hd';refine⟨w,_,rfl,dput,P F2 _ (u.trans u2).ff ?_⟩;have hw0:P0 i w:=(ht j w tw).1;have wb:w≠b:=(ht j w tw).2;have df':∀ kv∈d',kv.2.flat=true:=by
  have e:(match qO k with|some k=>if d.length<sizeLine then some (PV.dk (dG d k p)) else none|none=>none)=some (PV.dk d'):=hd'
  split at e
  ·split at e
   ·cases e;exact qd pf df
   ·cases e
  ·cases e
 obtain⟨ys',hw',_⟩:=ow';have nt:∀ zs,ob≠.tup zs:=λzs z=>by subst z;rw[aP] at hw';cases hw'
 refine R2.J8 d2 (cN hl) e1 hw0 nt (S':=P0 i) ?_ λc z=>.inl z;have tups:∀ c zs,H2 c=some (.tup zs)->upd H2 w ob c=some (.tup zs):=λc zs q=>by
  rw[aM (λy=>by subst y;rw[hw] at q;cases q)];exact q
 have xl:xs.length=l.length:=by have:=Zbi List.length hkk;simpa using this
 have jl:j<l.length:=cg x3;refine .obj (S:=T) nm (by rw[aM (ZaS wb)];exact u2.hh _ _ ha) sa ht dj ?_ λk x q c1 c2=>?_
 ·rw[x4];apply ZbO
  intro k;rw[hkk,Zai,Zai,Zbq];by_cases hjk:j=k
  ·subst hjk;rw[Zae rfl,Zae jl,x3];rfl
  ·rw[Zaf hjk]
 ·rw[x4,Zbq] at c2;by_cases hjk:j=k
  ·subst hjk;rw[Zae rfl,Zae jl] at c2;cases c2;rw[x2] at c1;cases c1;have od:Own K F2 (upd H2 w ob) w (.dk d'):=⟨ys',hw',by assumption⟩
   exact(od.dp (Zay.mpr λkv z=>CZ (df' kv z))).mono λc z=>by subst z;exact tw
  ·rw[Zaf hjk] at c2;exact((hr k x q c1 c2).stay u2).up (aL.refl _) (λc o z q=>by rw[aM (λy=>by subst y;exact hjk (dj j k c tw z))];exact q) tups
end
structure Ent(K:PySem.W.Frag)(F H:Hp)(S:Addr->Prop)(v:V)(p:PV):Prop where
 s:aL F H
 d:Dp K F H S v p
 rm:Rm S F H
noncomputable abbrev Cc(K:PySem.W.Frag)(E:XK)(F H:Hp)(S:Addr->Prop):Cg:=CE K E (λ_=>False) H (pD F H S)
noncomputable abbrev Cw(F H:Hp)(S:Addr->Prop):Cg:=C0 (λ_=>False) (jD H S) F
def RJ:Option Sl->Bool
 |none=>true
 |some (.sh q)=>q.still
 |some (.ow q)=>q.rP
 |some (.dp _)=>false
def Ku(p:PV)(g:Sn):Sn:=λρ=>match ρ with
 |_::r=>if r.all RJ=true then g (some (.dp p)::r) else none
 |[]=>none
def lU(f g:Sn):Sn:=λρ=>match f ρ with
 |some (.nx ρ')=>g ρ'
 |some (.ex (.exc c []))=>some (.ex (.exc c []))
 |_=>none
def Kv:Option Out->Option (Res PV)
 |some (.nx ρ)=>match ir 0 ρ with
  |some p=>some (.ok (.tup [.non,p]))
  |none=>none
 |some (.ex (.exc c []))=>some (.ex (.exc c []))
 |_=>none
def POC(K:PySem.W.Frag)(E:XK)(F H:Hp)(S:Addr->Prop)(v:V)(D:Ends):Out->Prop
 |.nx ρ=>∀ F' H' σ,aL F F'->RE K (Cw F H S).toCf F' H' σ ρ->σ[0]?=some (some v)->D.nx σ H'
 |.ex z=>∃ c,z=.exc c []/\∀ ev H',aL H H'->XRS K F ev none z->E ev none H'
 |_=>False
def NQ(K:PySem.W.Frag)(E:XK)(F H:Hp)(S:Addr->Prop)(v:V)(t:TS)(f:Sn):Prop:=
 ∀ F1 H1 σ ρ D o,RE K (Cc K E F H S).toCf F1 H1 σ ρ->aL (pD F H S) F1->σ[0]?=some (some v)->f ρ=some o->POC K E F H S v D o->t D σ H1
section
variable{K:PySem.W.Frag}{E:XK}{F H F1 H1:Hp}{S:Addr->Prop}{v:V}{p:PV}{t u:TS}{f g:Sn}{σ:St}{ρ:Rho}
theorem ux(h1:MSk K (Cc K E F H S) 0 t f)(h2:NQ K E F H S v u g):NQ K E F H S v (Gr t u) (lU f g):=by
 intro F1 H1 σ ρ D o R s0 ev e P;unfold lU at e;split at e
 ·rename_i ρ' h;exact h1 F1 H1 σ ρ _ _ R h λF' H' σ' s R' es=>h2 F' H' σ' ρ' D o R' (s0.trans s) (by rw[es];exact ev) e P
 ·rename_i c h;cases e;refine h1 F1 H1 σ ρ _ _ R h λec d F' H' s rb x=>?_;obtain⟨c',z,go⟩:=P;obtain⟨c2,l,Ca,e1,e2,nm,fx⟩:=x;cases e1;rcases fx with⟨rfl,_⟩|⟨dx,xs,_,ne,_⟩
  ·exact go ec H' (λb o q=>rb.keep b o q id) ⟨c,[],Ca,rfl,e2,nm,.inl ⟨rfl,rfl⟩⟩
  ·exact absurd rfl ne
 ·cases e
theorem Fv(en:Ent K F H S v p)(h:MSk K (Cw F H S) 0 t g):NQ K E F H S v t (Ku p g):=by
 intro F1 H1 σ ρ D o R s0 ev e P;unfold Ku at e;split at e
 case h_2=>cases e
 rename_i s1 r;split at e
 case isFalse=>cases e
 rename_i ok;have ok:=Zay.mp ok;have sH:aL H H1:=λb o q=>R.rb.keep b o q id;have d1:Dp K F H1 S v p:=en.d.up (aL.refl _) (λb o _ q=>sH b o q) λb ys q=>sH b _ q;have inS:∀ {b:Addr},S b->∃ o,H1 b=some o/\∀ ys,o≠.tup ys:=λ{b} z=>let⟨_,o,q,n⟩:=en.rm b z;⟨o,sH b o q,n⟩;have tupS:∀ {b:Addr}{ys:List V},F1 b=some (.tup ys)->¬S b:=λ{b ys} q z=>by
  obtain⟨o,h1,h2⟩:=inS z;rw[R.rb.sub _ _ q] at h1;cases h1;exact h2 ys rfl
 have tp:∀ b ys,F1 b=some (.tup ys)->jD F1 S b=some (.tup ys):=λb ys q=>by rw[dH (tupS q)];exact q
 have sF:aL F (jD F1 S):=λb o q=>by
  have nb:¬S b:=λz=>by rw[(en.rm b z).1] at q;cases q
  rw[dH nb];exact s0 b o (gK en.s b o q)
 have fd:∀ {b:Addr}{o:HO},jD F1 S b=some o->¬S b/\F1 b=some o:=λ{b o} q=>by
  by_cases z:S b
  ·rw[m7 z] at q;cases q
  ·rw[dH z] at q;exact⟨z,q⟩
 have zq:∀ {w:V}{q:PV},Rep K F1 w q->q.still=true->Rep K (jD F1 S) w q:=λr st=>r.lz st tp;have R2:RE K (Cw F H S).toCf (jD F1 S) H1 σ (some (.dp p)::r):=by
  refine⟨⟨λb o q=>R.rb.sub b o (fd q).2,λb o q _=>?_,λb o q=>?_,λ_ h=>h.elim⟩,by simpa using R.len,λi q e=>?_,λi q e=>?_,λi k q q' a e e' f f'=>?_,⟨λj b=>j=0/\S b,λi b z=>?_,λi j b z z'=>by rw[z.1,z'.1],λi j q b z e f=>?_,λi q e=>?_⟩⟩
  ·have q:jD H S b=some o:=q;by_cases z:S b
   ·rw[m7 z] at q;cases q
   ·rw[dH z] at q;exact sH b o q
  ·obtain⟨nb,q⟩:=fd q;rcases R.rb.new b o q with z|z|z
   ·by_cases hb:S b\/∃ ys,H b=some (.tup ys)
    ·have z:pD F H S b=some o:=z;rw[mX hb] at z;obtain⟨ys,y⟩:=hb.resolve_left nb;rw[y] at z;cases z;exact .inr (.inr ⟨ys,rfl⟩)
    ·have z:pD F H S b=some o:=z;rw[jA hb] at z;exact .inl z
   ·have z:H b=none:=z;exact .inr (.inl (show jD H S b=none by rw[dH nb];exact z))
   ·exact .inr (.inr z)
  ·cases i with
   |zero=>cases e
   |succ i=>
    obtain⟨w,g1,g2⟩:=R.sh (i+1) q e;exact⟨w,g1,zq g2 (ok _ (Zao (show r[i]?=_ from e)))⟩
  ·cases i with
   |zero=>cases e
   |succ i=>
    obtain⟨a,g1,g2,g3,g4⟩:=R.ow (i+1) q e;have na:H a=none:=(g4.resolve_left id).2;have nS:¬S a:=λz=>by obtain⟨_,o,c,_⟩:=en.rm a z;rw[na] at c;cases c
    have sh:q.rP=true:=ok _ (Zao (show r[i]?=_ from e));refine⟨a,g1,?_,by rw[dH nS];exact g3,.inr ⟨trivial,show jD H S a=none by rw[dH nS];exact na⟩⟩
    cases q with
    |lst l=>obtain⟨xs,k1,k2⟩:=g2;exact⟨xs,k1,k2.1,λj x q a b=>zq (k2.2 j x q a b) (Zay.mp sh q (Zao b))⟩
    |dk l=>obtain⟨xs,k1,k2,k3⟩:=g2;exact⟨xs,k1,k2,λj x q a b=>zq (k3 j x q a b) (Zay.mp sh q (Zao b))⟩
    |dt l=>obtain⟨xs,k1,k2,k3⟩:=g2;exact⟨xs,k1,k2,λj x q a b=>zq (k3 j x q a b) (Zay.mp sh q (Zao b))⟩
    |_=>exact g2.elim
  ·cases i with
   |zero=>cases e
   |succ i=>
    cases k with
    |zero=>cases e'
    |succ k=>exact R.dis (i+1) (k+1) q q' a e e' f f'
  ·exact⟨m7 z.2,inS z.2,trivial,m7 z.2⟩
  ·cases j with
   |zero=>cases e
   |succ j=>
    obtain⟨a,g1,g2,g3,g4⟩:=R.ow (j+1) q e;rw[f] at g1;cases g1;have na:H b=none:=(g4.resolve_left id).2;obtain⟨_,o,c,_⟩:=en.rm b z.2;rw[na] at c;cases c
  ·cases i with
   |zero=>cases e;exact⟨v,ev,(d1.up sF (λb o _ q=>q) λb ys q=>q).mono λb z=>⟨rfl,z⟩⟩
   |succ i=>
    have:=ok _ (Zao (show r[i]?=_ from e));cases this
 refine h (jD F1 S) H1 σ _ D o R2 e ?_;cases o with
 |nx ρ'=>exact λF' H' σ' s' R' es=>P F' H' σ' (sF.trans s') R' (by rw[es];exact ev)
 |ex z=>exact λ_ _ _ _ _ _ x=>x.elim
 |rt p=>exact P.elim
 |ro p=>exact P.elim
 |rd p=>exact P.elim
 |bk ρ=>exact P.elim
 |ct ρ=>exact P.elim
theorem z9{N:List Str}{vs:List V}{Q:VK}{m:List PV->Option (Res PV)}{b:PV->Sn}{k n:Nat}(hk:N.length=k+1+n)(hm:∀ ps r,m ps=some r->∃ p qs,ps=p::qs/\qs.length=k/\Kv (b p (startR (p::qs) n))=some r)(h:spW K m vs H Q E)
  (hS:∀ (F:Hp) (S:Addr->Prop) (v:V) (p:PV),Ent K F H S v p->NQ K E F H S v t (b p)):t { nx:=λ_ H'=>Q .non H',rt:=Q } (start N vs) H:=by
 obtain⟨v,args,p,ps,F,S,r,rfl,s,d,rm,rp,e,P⟩:=h;obtain⟨p',qs,ee,hl,e⟩:=hm _ _ e;cases ee;have rp2:bz K (pD F H S) (v::args) (p::ps):=(rp.up (gK s)).cons (zL d s);have R:=lG (E:=E) (N:=N) (n:=n) (zK s) rp2 (by rw[Zax,rp.1,hl,hk])
 have M:=hS F S v p ⟨s,d,rm⟩;have hst:(start N (v::args))[0]?=some (some v):=lH rfl;cases ho:b p (startR (p::ps) n) with
 |none=>rw[ho] at e;cases e
 |some o=>
  rw[ho] at e;refine M _ H _ _ _ _ R (aL.refl _) hst ho ?_;cases o with
  |nx ρ=>
   intro F' H' σ' s' R' es;have e:(match ir 0 ρ with|some p=>some (Res.ok (PV.tup [.non,p]))|none=>none)=some r:=e
   split at e
   ·rename_i p1 hp;cases e;obtain⟨P1,d1⟩:=R'.dd;obtain⟨v1,e1,dp1⟩:=d1.dp 0 _ (cN hp);rw[es] at e1;cases e1;exact P .non F' H' (P1 0) (CV s' R'.rb) dp1 (λb z=>xP (d1.own 0 b z).2.2.2) (λb z=>⟨(d1.own 0 b z).1,(d1.own 0 b z).2.1⟩) .non
   ·cases e
  |ex z=>
   match z,e with
   |.exc c [],e=>
    cases e;exact⟨c,rfl,λev H' sH x=>P ev none F H' ⟨aL.refl _,sH,λ_ _ q=>.inl q,s.trans sH⟩ x⟩
  |rt p=>cases e
  |ro p=>cases e
  |rd p=>cases e
  |bk ρ=>cases e
  |ct ρ=>cases e
end
def MethAt(P:Program)(w:World)(K:PySem.W.Frag)(mg:Str->Option Value)(base:Heap)(Ca:Addr)(mn:Str)(k:Nat)(ps:List Str)(sp:Sp):Prop:=
 ∃ (f:Addr) (fd:FuncData),Meth K Ca mn f/\Binds K fd ps []/\jg P w K mg base (CXS P w) k f fd ps sp
def Dc(P:Program)(w:World)(K:PySem.W.Frag)(mg:Str->Option Value)(base:Heap)(Ca:Addr)(k:Nat)(ps:List Str)(sp:Sp):Prop:=
 ∃ (f:Addr) (fd:FuncData),Mk K Ca f/\Binds K fd ps []/\jg P w K mg base CX0 k f fd ps sp
theorem Fw{X:Cx}:gQ (CXS X.prog X.w) X E0:=λ_ _ _ _ _ _ _ h=>(CXS.no h).elim
section
variable{X:Cx}{k:Nat}{ps:List Str}{sp:Sp}{x mn:Str}{Ca:Addr}{p pos apos:Pos}{e o:Expr}{es:List Expr}{t:TA}{ta:TE}{E:XK}{pl:Sem Bool}
theorem Aa(hx:gQ (CXS X.prog X.w) X E)(G:MethAt X.prog X.w X.K X.mg X.base Ca mn k ps sp)(c:Cls X.K Ca)(hr:cB k X.A)(he:PE X o ta)(ha:PA X (e::es) t)
  (hst:starEach (e::es) X.env=(false,eval e X.env)::starEach es X.env:=by rfl)(hpl:(backTo pos (starEach es X.env)).any (·.1)=false:=by rfl)
  (ht:eval (.Call (.Attribute o mn apos) (e::es) [] pos) X.env=(do
   let ov <-eval o X.env
   standAt apos.atName
   let(f,first) <-holding [ov] (getMethod ov mn pl)
   callWith pos f first (backTo pos (starEach (e::es) X.env)) (backToKw pos (keywordEach [] X.env))):=by rfl):PE X (.Call (.Attribute o mn apos) (e::es) [] pos) (qG Ca mn sp [] E ta t):=by
 obtain⟨f,fd,e1,e2,e3⟩:=G;exact LK he c e1 e3 hr e2 .nil hx ha hst hpl ht
theorem Hv(G:MethAt X.prog X.w X.K X.mg X.base Ca mn k ps sp)(c:Cls X.K Ca)(hr:cB k X.A)(he:PE X.nox o ta)(ha:PA X.nox (e::es) t)
  (hst:starEach (e::es) X.env=(false,eval e X.env)::starEach es X.env:=by rfl)(hpl:(backTo pos (starEach es X.env)).any (·.1)=false:=by rfl)
  (ht:eval (.Call (.Attribute o mn apos) (e::es) [] pos) X.env=(do
   let ov <-eval o X.env
   standAt apos.atName
   let(f,first) <-holding [ov] (getMethod ov mn pl)
   callWith pos f first (backTo pos (starEach (e::es) X.env)) (backToKw pos (keywordEach [] X.env))):=by rfl):TV X (.Call (.Attribute o mn apos) (e::es) [] pos) (λE=>qG Ca mn sp [] E ta t):=by
 obtain⟨f,fd,hm,hb,F⟩:=G;intro pins σ E xe hx s H Q I h;refine PySem.W.methodCall_KW (pl:=pl) (ZaG (he pins s σ H _ (I.wish _) h) (?_) λ_ _ z=>z.elim) ht;rintro u s1 ⟨x,H1,I1,rx,a,dx,fs,ex,ea,l,q⟩;subst ex;obtain rfl:u=Value.ref a:=rx;refine sO I1.fO ea c hm l ?_;refine Zbk (first:=[.ref a]) (h₀:=X.base) I.ok.mod.kin hm.kp (ZaG (ha pos pins s1 σ H1 _ I1 q) (λus s2 ⟨vs,H2,I2,r,q2⟩=>⟨I2.kIn,?_⟩) λ_ _ z=>z.elim) hst hpl;have I2:=I2.fO;have q':sp (.ref a::(vs++[])) H2 Q E:=q2;rw[Zaz] at q';have r2:Vals (.ref a::vs) (.ref a::us):=.cons rfl r;have hl:(Value.ref a::us).length=ps.length:=by rw[<-r2.length];exact F.len _ _ _ _ q'
 have hb':=hb s2 (Value.ref a::us) I2.kIn (by rw[Zaz];exact hl)
 rw[Zaz] at hb';refine wpAny_call (codeAny_mono (F.run X.A X.stack s2 H2 ⟨.ref a::us,[]⟩ (.ref a::us) (.ref a::vs) Q E hr I2.env0 hb' r2 q') λr s' hq=>?_);cases r with
 |error ev=>exact hx H2 s2 ev s' I2 hq
 |ok fl=>
  cases fl with
  |ret u=>exact I2.after hq
  |next=>exact False.elim hq
  |brk=>exact False.elim hq
  |cont=>exact False.elim hq
theorem Kw(G:Dc X.prog X.w X.K X.mg X.base Ca k ps sp)(hr:cB (k+1) X.A)(hg:Gl X x)(hm:X.mg x=some (.ref Ca))(ha:PA X (e::es) t)(hdb:(x==("__debug__":Str))=false:=by decide)
  (he:starEach (e::es) X.env=(false,eval e X.env)::starEach es X.env:=by rfl)(hpl:(backTo pos (starEach es X.env)).any (·.1)=false:=by rfl):PE X (.Call (.Name x p) (e::es) [] pos) (Jg Ca sp [] E0 t):=by
 obtain⟨f,fd,e1,e2,e3⟩:=G;exact LQ e1 e3 hr hg hm e2 .nil O3 ha hdb he hpl
end
section
variable{P:Program}{w:World}{K:PySem.W.Frag}{mg:Str->Option Value}{base:Heap}
theorem _root_.L2.Fun.okX{x qual:Str}{st:Stmt}{f:Addr}{fd:FuncData}{N ps:List Str}{k:Nat}{sp:Sp}(F:Fun K x qual st f fd)(S:bf N ps (aB st))(len:∀ vs H Q E,sp vs H Q E->vs.length=ps.length)
  (hbody:∀ (cdv:Value) (A:Around) (outer:List Env) (s:Shared) (H:Hp) (vs:List V) (Q:VK) (E:XK),cB k (A.deeper (envOfC qual (aB st) s.heap.objs.size f cdv))->sp vs H Q E ->
   ∃ t,PSs (cxX P w K mg base N qual (aB st) f cdv A outer s H E) (aW st) t/\t { nx:=λ_ H'=>Q .non H',rt:=Q } (start N vs) H):jg P w K mg base (CXS P w) (k+1) f fd ps sp:=by
 obtain⟨oc,od,kV,doc,pm,an,cdv,ct,osl,rfl,lk,hcd⟩:=F.ex;refine Jj lk hcd S len λA outer s H vs Q E hr hsp=>?_;obtain⟨t,h,q⟩:=hbody cdv A outer s H vs Q E hr hsp;exact⟨t,PSs.ofX (λe s' z=>leaves z) h,q⟩
end
def De(f:Fn PV):Fn PV:=λρ=>match f ρ with
 |some (.ok p)=>some (.ok p)
 |_=>none
section
variable{K:PySem.W.Frag}{C:Cg}{ta te:TE}{t:TA}{fa:Fn PV}{fs:Fn (List PV)}{m:List PV->Option (Res PV)}{cls mn:Str}{Ca:Addr}{k:Nat}
theorem Hw(O:OC K cls Ca)(ha:MJ K C (aF K) ta fa)(hs:MA K C t fs):MJ K C (aF K) (qG Ca mn (spM K (XRS K) m) [] E0 ta t) (De (oE cls mn m fa fs)):=by
 intro F H σ ρ Q r R e P;unfold De at e;split at e
 ·rename_i p hp;cases e;exact Nu O ha hs R hp P λps xs F1 H1 hm u rp=>⟨ps,F1,.ok p,u.fh,rp,hm,λv F' H' u' rv=>P v F' H' (u.trans u') rv⟩
 ·cases e
theorem Ab{fe:Fn PV}(h:MJ K C (aF K) te fe):MSk K C k (qz te) (oY fe):=by
 intro F H σ ρ D o R e P;rcases bR e with⟨z,e1,rfl⟩|⟨p,e1,hk⟩
 ·exact h F H σ ρ _ _ R e1 P
 ·cases hk;exact h F H σ ρ _ _ R e1 λv F1 H1 u a=>P F1 H1 σ u.ff (R.up u) rfl
theorem Hx{c:Str}:Pk (m5 c):=λρ o e=>by cases e;trivial
theorem RK{A:Type}{D:Rel A}{r2:R2}{op:PV->PV->Option (Res A)}(r:R2M C (aH K) (aH K) D r2 op):R2M C (aF K) (aF K) D r2 op:=λF H x y a b res Q s ha hb=>r F H x y a b res Q s (Rep.up ha s) (Rep.up hb s)
end
section
variable{X:Cx}{e o value:Expr}{f:Str}{pos pos':Pos}{ta tv:TE}
theorem fW(K:PySem.W.Frag)(hK:X.K=K)(he:PE X e ta)(hb:attributeBase e f X.env (eval e X.env)=eval e X.env):PE X (.Attribute e f pos) (Lz K ta f):=hK▸Qy he hb
theorem pG(K:PySem.W.Frag)(hK:X.K=K)(ha:PE X o ta)(hv:PE X value tv)(hs:swapsWith value (some (.Attribute o f pos')) pos.line X.env=pure false):PS X (.Assign [.Attribute o f pos'] value pos) (Qx K ta tv f):=hK▸Qz ha hv hs
end
end L2.MP
namespace L2
open PySem PySem.Spec PyProof PyProof.Rows
def Fx(r r' r'':R2)(ta tb tc td:TE):TE:=λσ H Q=>ta σ H λx H1=>tb σ H1 λy H2=>r x y H2 λz H3=>∃ k,z=.bl k /\
 (if k=true then tc σ H3 λw H4=>r' y w H4 λz2 H5=>∃ k2,z2=.bl k2/\(if k2=true then td σ H5 λu H6=>r'' w u H6 Q else Q (.bl false) H5) else Q (.bl false) H3)
theorem Hy{X:Cx}{a b c d:Expr}{ta tb tc td:TE}{pos:Pos}{op op' op'':CmpOp}{r r' r'':R2}(ho:OpR X (compareOp op) r)(ho':OpR X (compareOp op') r')(ho'':OpR X (compareOp op'') r'')(ha:PE X a ta)(hb:PE X b tb)(hc:PE X c tc)(hd:PE X d td)
  (hm:lastMarks [op,op',op''] [b,c,d]=false:=by with_unfolding_all rfl):PE X (.Compare a [op,op',op''] [b,c,d] pos) (Fx r r' r'' ta tb tc td):=by
 intro pins s σ H Q I h;refine Compare_chain (thn (ha pins s σ H _ I h) λv s1 ⟨x,H1,I1,r1,q1⟩=>chain_link (thn (hb pins s1 σ H1 _ I1 q1) λu s2 ⟨y,H2,I2,r2,q2⟩=>
  thn (ho pins s2 σ H2 x y v u _ I2 r1 r2 q2) λd s3 ⟨z,H3,I3,r3,k,e,q3⟩=>?_)) hm
 subst e;cases r3;refine wpAny_truthy_bool ?_;cases k with
 |false=>exact ite_ff ⟨.bl false,H3,I3,rfl,q3⟩
 |true=>
  refine ite_tt (chain_link (thn (hc pins s3 σ H3 _ I3 q3) λw' s4 ⟨z',H4,I4,r4,q4⟩=>thn (ho' pins s4 σ H4 y z' u w' _ I4 r2 r4 q4) ?_));rintro d s5 ⟨z5,H5,I5,r5,k5,e5,q5⟩;subst e5;cases r5;refine wpAny_truthy_bool ?_;cases k5 with
  |false=>exact ite_ff ⟨.bl false,H5,I5,rfl,q5⟩
  |true=>exact ite_tt (chain_last (thn (hd pins s5 σ H5 _ I5 q5) λw6 s6 ⟨z6,H6,I6,r6,q6⟩=>ho'' pins s6 σ H6 z' z6 w' w6 Q I6 r4 r6 q6))
namespace MP
def rW(o1 o2 o3:PV->PV->Option (Res PV))(f g h k:Fn PV):Fn PV:=λρ=>bnd (f ρ) λa=>bnd (g ρ) λb=>bnd (o1 a b) λz=>match z with
 |.bl true=>bnd (h ρ) λc=>bnd (o2 b c) λz2=>match z2 with
  |.bl true=>bnd (k ρ) λd=>o3 c d
  |.bl false=>some (.ok (.bl false))
  |_=>none
 |.bl false=>some (.ok (.bl false))
 |_=>none
theorem Hz{K:PySem.W.Frag}{C:Cg}{ta tb tc td:TE}{o1 o2 o3:PV->PV->Option (Res PV)}{r r' r'':R2}{f g h k:Fn PV}(r1:R2M C (aF K) (aF K) (aF K) r o1)(r2:R2M C (aF K) (aF K) (aF K) r' o2)(r3:R2M C (aF K) (aF K) (aF K) r'' o3)
  (ha:MJ K C (aF K) ta f)(hb:MJ K C (aF K) tb g)(hc:MJ K C (aF K) tc h)(hd:MJ K C (aF K) td k):MJ K C (aF K) (Fx r r' r'' ta tb tc td) (rW o1 o2 o3 f g h k):=by
 intro F H σ ρ Q res R e P;refine ha.run R e P λp v F1 H1 hk u a=>?_;refine hb.run (R.up u) hk (P.later u) λq w F2 H2 hk2 u2 b=>?_;have ut:=u.trans u2;rcases bx hk2 with⟨z,e1,rfl⟩|⟨z,e1,hk3⟩
 ·exact r1 F2 H2 v w p q _ _ u2.fh (Rep.up a u2.ff) b e1 (PX.up P ut.ff)
 refine r1 F2 H2 v w p q _ _ u2.fh (Rep.up a u2.ff) b e1 λvz F3 H3 u3 rz=>?_;have ut3:=ut.trans u3
 match z,hk3 with
 |.bl false,hk3=>
  cases hk3;cases Rep.cX rz;exact⟨false,rfl,by rw[Zaf (by decide)];exact P _ F3 H3 ut3 .bl⟩
 |.bl true,hk3=>
  cases Rep.cX rz;refine⟨true,rfl,?_⟩;rw[Zae rfl];refine hc.run (R.up ut3) hk3 (P.later ut3) λc x F4 H4 hk4 u4 rc=>?_;have ut4:=ut3.trans u4;have b4:Rep K F4 w q:=Rep.up (Rep.up b u3.ff) u4.ff;rcases bx hk4 with⟨z,e2,rfl⟩|⟨z2,e2,hk5⟩
  ·exact r2 F4 H4 w x q c _ _ u4.fh b4 rc e2 (PX.up P ut4.ff)
  refine r2 F4 H4 w x q c _ _ u4.fh b4 rc e2 λvy F5 H5 u5 ry=>?_;have ut5:=ut4.trans u5
  match z2,hk5 with
  |.bl false,hk5=>
   cases hk5;cases Rep.cX ry;exact⟨false,rfl,by rw[Zaf (by decide)];exact P _ F5 H5 ut5 .bl⟩
  |.bl true,hk5=>
   cases Rep.cX ry;refine⟨true,rfl,?_⟩;rw[Zae rfl];refine hd.run (R.up ut5) hk5 (P.later ut5) λd y F6 H6 hk6 u6 rd=>?_;exact r3 F6 H6 x y c d res Q u6.fh (Rep.up (Rep.up rc u5.ff) u6.ff) rd hk6 (P.later (ut5.trans u6))
def HB(i j:Nat)(f:Fn (List PV)):Sn:=λρ=>eE (f ρ) λl=>match l with
 |[p,q]=>some (.nx ((ρ.set i (some (.sh p))).set j (some (.sh q))))
 |_=>none
theorem Df{K:PySem.W.Frag}{C:Cg}{i j:Nat}{ta:TA}{f:Fn (List PV)}(h:MA K C ta f):MS K C (R7 i j ta) (HB i j f):=by
 intro F H σ ρ D o R e P;refine h.jh R e P λl xs F1 H1 hk u a=>?_
 match l,hk,a with
 |[p,q],hk,a=>
  cases hk;obtain⟨v,ys,rfl,r1,a⟩:=a.gV;obtain⟨w,zs,rfl,r2,a⟩:=a.gV;cases a.oW;exact⟨v,w,rfl,P F1 H1 _ u.ff (((R.up u).set i r1).set j r2)⟩
end MP
end L2
namespace MM
open PySem PySem.Spec PyProof.Rows L2 L2.MP
def Tv{α:Type}(x:Option (Res α))(Q:α->Prop):Prop:=∃ a,x=some (.ok a)/\Q a
def Out.calm:Out->Prop
 |.ex _=>False
 |_=>True
def To(x:Option Out)(Q:Out->Prop):Prop:=∃ o,x=some o/\Out.calm o/\Q o
def uy(k:Rho->Prop)(Q:Out->Prop):Out->Prop
 |.nx ρ=>k ρ
 |o=>Q o
section
variable{α β γ:Type}{Q:α->Prop}{QS:Out->Prop}{k:β->Prop}{f:Fn PV}{g h:Fn PV}{ρ:Rho}{a:β}{z p:PV}{i:Nat}{s t:Sn}
theorem onNx_nx{k:Rho->Prop}:uy k QS (.nx ρ)=k ρ:=rfl
theorem onNx_rt{k:Rho->Prop}:uy k QS (.rt p)=QS (.rt p):=rfl
theorem onNx_ro{k:Rho->Prop}:uy k QS (.ro p)=QS (.ro p):=rfl
theorem onNx_rd{k:Rho->Prop}:uy k QS (.rd p)=QS (.rd p):=rfl
theorem onNx_bk{k:Rho->Prop}:uy k QS (.bk ρ)=QS (.bk ρ):=rfl
theorem onNx_ct{k:Rho->Prop}:uy k QS (.ct ρ)=QS (.ct ρ):=rfl
theorem tv_some{a:α}:Tv (some (.ok a)) Q=Q a:=by
 refine propext ⟨?_,λq=>⟨a,rfl,q⟩⟩;rintro⟨r',e,q⟩;cases e;exact q
theorem to_nx:To (some (.nx ρ)) QS=QS (.nx ρ):=propext ⟨λ⟨_,e,_,q⟩=>by cases e;exact q,λq=>⟨_,rfl,trivial,q⟩⟩
theorem to_rt:To (some (.rt p)) QS=QS (.rt p):=propext ⟨λ⟨_,e,_,q⟩=>by cases e;exact q,λq=>⟨_,rfl,trivial,q⟩⟩
theorem to_ro:To (some (.ro p)) QS=QS (.ro p):=propext ⟨λ⟨_,e,_,q⟩=>by cases e;exact q,λq=>⟨_,rfl,trivial,q⟩⟩
theorem to_rd:To (some (.rd p)) QS=QS (.rd p):=propext ⟨λ⟨_,e,_,q⟩=>by cases e;exact q,λq=>⟨_,rfl,trivial,q⟩⟩
theorem to_bk:To (some (.bk ρ)) QS=QS (.bk ρ):=propext ⟨λ⟨_,e,_,q⟩=>by cases e;exact q,λq=>⟨_,rfl,trivial,q⟩⟩
theorem to_ct:To (some (.ct ρ)) QS=QS (.ct ρ):=propext ⟨λ⟨_,e,_,q⟩=>by cases e;exact q,λq=>⟨_,rfl,trivial,q⟩⟩
theorem tv_bnd{x:Option (Res β)}{kk:β->Option (Res α)}:Tv (bnd x kk) Q=Tv x (λb=>Tv (kk b) Q):=by
 refine propext ⟨?_,?_⟩
 ·rintro⟨r,e,q⟩;rcases bx e with⟨z,e1,e2⟩|⟨b,e1,e2⟩
  ·cases e2
  ·exact⟨_,e1,r,e2,q⟩
 ·rintro⟨b,e,q⟩;subst e;exact q
theorem to_bnd{x:Option (Res β)}{kk:β->Option Out}:To (eE x kk) QS=Tv x (λb=>To (kk b) QS):=by
 refine propext ⟨?_,?_⟩
 ·rintro⟨r,e,c,q⟩;rcases bR e with⟨z,e1,rfl⟩|⟨b,e1,e2⟩
  ·exact c.elim
  ·exact⟨_,e1,r,e2,c,q⟩
 ·rintro⟨b,e,q⟩;subst e;exact q
theorem to_seq:To (bA s t ρ) QS=To (s ρ) (uy (λρ'=>To (t ρ') QS) QS):=by
 refine propext ⟨?_,?_⟩
 ·rintro⟨r,e,c,q⟩;unfold bA at e;split at e
  ·rename_i ρ' h;exact⟨_,h,trivial,r,e,c,q⟩
  ·rename_i x hx;refine⟨r,e,c,?_⟩;cases r with
   |nx ρ'=>exact absurd e (hx ρ')
   |_=>exact q
 ·rintro⟨o,e,c,q⟩;unfold bA To;rw[e];cases o with
  |nx ρ'=>exact q
  |_=>exact⟨_,rfl,c,q⟩
theorem m8:Tv (none:Option (Res α)) Q=False:=propext ⟨λ⟨_,e,_⟩=>(nomatch e),λh=>h.elim⟩
theorem NT:To none QS=False:=propext ⟨λ⟨_,e,_⟩=>(nomatch e),λh=>h.elim⟩
theorem tv_m2{op:β->γ->Option (Res α)}{f:Fn β}{g:Fn γ}:Tv (m2 op f g ρ) Q=Tv (f ρ) (λa=>Tv (g ρ) (λb=>Tv (op a b) Q)):=by
 unfold m2;simp only[tv_bnd]
theorem tv_m1{op:β->Option (Res α)}{f:Fn β}:Tv (m1 op f ρ) Q=Tv (f ρ) (λa=>Tv (op a) Q):=by unfold m1;rw[tv_bnd]
theorem tv_var{Q:PV->Prop}:Tv (mV i ρ) Q=∃ p,ρ[i]?=some (some (.sh p))/\Q p:=by
 refine propext ⟨?_,λ⟨p,e,q⟩=>⟨_,by unfold mV;rw[e],q⟩⟩
 rintro⟨r,e,q⟩;unfold mV at e;split at e
 ·rename_i p hp;cases e;exact⟨_,hp,q⟩
 ·cases e
theorem tv_lend{Q:PV->Prop}:Tv (mVL i ρ) Q=∃ s,ρ[i]?=some (some s)/\(match s with|.sh p=>Q p|.ow p=>Q p|.dp _=>False):=by
 refine propext ⟨?_,?_⟩
 ·rintro⟨r,e,q⟩;unfold mVL at e;split at e
  ·rename_i p hp;cases e;exact⟨_,hp,q⟩
  ·rename_i p hp;cases e;exact⟨_,hp,q⟩
  ·cases e
 ·rintro⟨s,e,q⟩;cases s with
  |sh p=>exact⟨_,by unfold mVL;rw[e],q⟩
  |ow p=>exact⟨_,by unfold mVL;rw[e],q⟩
  |dp p=>exact q.elim
theorem tv_c{Q:PV->Prop}:Tv (mC p ρ) Q=Q p:=tv_some
theorem tv_view{Q:List PV->Prop}:Tv (lF f ρ) Q=Tv (f ρ) (λa=>Tv (qL a) Q):=tv_bnd
theorem tv_viewN{Q:List PV->Prop}:Tv (jU i ρ) Q=Tv (mVL i ρ) (λa=>Tv (qL a) Q):=tv_bnd
theorem tv_asLst{l:List PV}{Q:List PV->Prop}:Tv (qL (.lst l)) Q=Q l:=tv_some
theorem tv_nil{Q:List PV->Prop}:Tv (bu ρ) Q=Q []:=tv_some
theorem tv_cons{g:Fn (List PV)}{Q:List PV->Prop}:Tv (aA f g ρ) Q=Tv (f ρ) (λa=>Tv (g ρ) (λl=>Q (a::l))):=by
 unfold aA;simp only[tv_bnd,tv_some]
theorem bH{c:Prop}[Decidable c]{a:α}:Tv (if c then some (.ok a) else none) Q=(c/\Q a):=by
 by_cases h:c
 ·rw[Zae h,tv_some];simp[h]
 ·rw[Zaf h,m8];simp[h]
theorem tv_tup{f:Fn (List PV)}{Q:PV->Prop}:Tv (kW f ρ) Q=Tv (f ρ) (λl=>l.length<=sizeLine/\Q (.tup l)):=by
 unfold kW;simp only[tv_bnd,bH]
theorem tv_lst{f:Fn (List PV)}{Q:PV->Prop}:Tv (jz f ρ) Q=Tv (f ρ) (λl=>l.length<=sizeLine/\Q (.lst l)):=by
 unfold jz;simp only[tv_bnd,bH]
theorem tv_call{m:List PV->Option (Res PV)}{f:Fn (List PV)}{Q:PV->Prop}:Tv (cC m f ρ) Q=Tv (f ρ) (λl=>Tv (m l) Q):=tv_bnd
theorem tv_ite{c:Prop}[Decidable c]{x y:Option (Res α)}:Tv (if c then x else y) Q=if c then Tv x Q else Tv y Q:=by split<;>rfl
theorem to_ite{c:Prop}[Decidable c]{x y:Option Out}:To (if c then x else y) QS=if c then To x QS else To y QS:=by split<;>rfl
theorem tv_mIf{c:Fn Bool}{f g:Fn α}:Tv (mIf c f g ρ) Q=Tv (c ρ) (λb=>if b=true then Tv (f ρ) Q else Tv (g ρ) Q):=by
 unfold mIf;simp only[tv_bnd,tv_ite]
theorem tv_mOr{c d:Fn Bool}{Q:Bool->Prop}:Tv (mOr c d ρ) Q=Tv (c ρ) (λb=>if b=true then Q true else Tv (d ρ) Q):=by
 unfold mOr;simp only[tv_bnd,tv_ite,tv_some]
theorem tv_mNot{c:Fn Bool}{Q:Bool->Prop}:Tv (rB c ρ) Q=Tv (c ρ) (λb=>Q (!b)):=by
 unfold rB;simp only[tv_bnd,tv_some]
theorem tv_and{Q:PV->Prop}:Tv (oX f g ρ) Q=Tv (f ρ) (λa=>∃ b,a=.bl b/\if b=true then Tv (g ρ) Q else Q (.bl false)):=by
 unfold oX;rw[tv_bnd];congr 1;funext a
 refine propext ⟨?_,?_⟩
 ·rintro⟨r,e,q⟩;split at e
  ·exact⟨true,rfl,by rw[Zae rfl];exact⟨r,e,q⟩⟩
  ·cases e;exact⟨false,rfl,by rw[Zaf (by decide)];exact q⟩
  ·cases e
 ·rintro⟨b,e,q⟩;subst e;cases b with
  |true=>rw[Zae rfl] at q;exact q
  |false=>rw[Zaf (by decide)] at q;exact⟨_,rfl,q⟩
theorem tv_chain{o1 o2:PV->PV->Option (Res PV)}{Q:PV->Prop}:Tv (pX o1 o2 f g h ρ) Q=Tv (f ρ) (λa=>Tv (g ρ) (λb=>Tv (o1 a b) (λz=>∃ t,z=.bl t/\if t=true then Tv (h ρ) (λc=>Tv (o2 b c) Q) else Q (.bl false)))):=by
 unfold pX;simp only[tv_bnd];congr 1;funext a
 congr 1;funext b
 congr 1;funext c
 refine propext ⟨?_,?_⟩
 ·rintro⟨r,e,q⟩;split at e
  ·refine⟨true,rfl,?_⟩;rw[Zae rfl,<-tv_bnd];exact⟨r,e,q⟩
  ·cases e;exact⟨false,rfl,by rw[Zaf (by decide)];exact q⟩
  ·cases e
 ·rintro⟨t,e,q⟩;subst e;cases t with
  |true=>rw[Zae rfl,<-tv_bnd] at q;exact q
  |false=>rw[Zaf (by decide)] at q;exact⟨_,rfl,q⟩
theorem tv_comp{it:Fn (List PV)}{fr:List (Option Nat)}{tg:PV->Rho->Option Rho}{tst:Fn Bool}{el:Fn PV}{Q:PV->Prop}:Tv (pq it fr tg tst el ρ) Q=Tv (it ρ) (λl=>l.length<=sizeLine/\Tv (fM tg tst el (frR fr ρ) l) (λr=>Q (.lst r))):=by
 unfold pq;rw[tv_bnd];congr 1;funext l
 by_cases hl:l.length<=sizeLine
 ·rw[Zae hl,tv_bnd];simp only[tv_some,hl,true_and]
 ·rw[Zaf hl,m8];simp[hl]
theorem to_next:To (dw ρ) QS=QS (.nx ρ):=to_nx
theorem to_ret:To (eF f ρ) QS=Tv (f ρ) (λp=>QS (.rt p)):=by unfold eF;simp only[to_bnd,to_rt]
theorem to_retO:To (tG f ρ) QS=Tv (f ρ) (λp=>QS (.ro p)):=by unfold tG;simp only[to_bnd,to_ro]
theorem to_drop:To (oY f ρ) QS=Tv (f ρ) (λ_=>QS (.nx ρ)):=by unfold oY;simp only[to_bnd,to_nx]
theorem to_setO:To (tE i f ρ) QS=Tv (f ρ) (λp=>QS (.nx (ρ.set i (some (.ow p))))):=by unfold tE;simp only[to_bnd,to_nx]
theorem to_asg{tg:PV->Rho->Option Rho}:To (cP f tg ρ) QS=Tv (f ρ) (λp=>∃ ρ',tg p ρ=some ρ'/\QS (.nx ρ')):=by
 unfold cP;rw[to_bnd];congr 1;funext a
 cases e:tg a ρ with
 |none=>rw[NT];exact propext ⟨λh=>h.elim,λ⟨_,z,_⟩=>nomatch z⟩
 |some ρ'=>rw[to_nx];exact propext ⟨λq=>⟨ρ',rfl,q⟩,λ⟨_,z,q⟩=>by cases z;exact q⟩
theorem to_asgN:To (cP f (gN i) ρ) QS=Tv (f ρ) (λp=>QS (.nx (ρ.set i (some (.sh p))))):=by
 rw[to_asg];congr 1;funext a
 exact propext ⟨λ⟨ρ',e,q⟩=>by cases e;exact q,λq=>⟨_,rfl,q⟩⟩
theorem to_if{c:Fn Bool}:To (gf c s t ρ) QS=Tv (c ρ) (λb=>if b=true then To (s ρ) QS else To (t ρ) QS):=by
 unfold gf;simp only[to_bnd,to_ite]
theorem to_for{it:Fn (List PV)}{tg:PV->Rho->Option Rho}:To (wY it tg s ρ) QS=Tv (it ρ) (λl=>To (loop tg s l ρ) QS):=to_bnd
theorem to_app:To (GX i f ρ) QS=∃ l,ρ[i]?=some (some (.ow (.lst l)))/\Tv (f ρ) (λp=>l.length<sizeLine/\QS (.nx (ρ.set i (some (.ow (.lst (l++[p]))))))):=by
 refine propext ⟨?_,?_⟩
 ·rintro⟨r,e,c,q⟩;unfold GX at e;split at e
  ·rename_i l hl;refine⟨l,bc hl,?_⟩;rcases bR e with⟨z,e1,rfl⟩|⟨p,e1,e2⟩
   ·exact c.elim
   ·split at e2
    ·rename_i hlen;cases e2;exact⟨_,e1,hlen,q⟩
    ·cases e2
  ·cases e
 ·rintro⟨l,e,p,e1,h,q⟩;have eo:ownAt i ρ=some (.lst l):=by unfold ownAt;rw[e]
  unfold To GX;rw[eo];exact⟨.nx _,by simp only[e1,eE];exact Zae h,trivial,q⟩
theorem to_put{fi:Fn PV}:To (Mu i f fi ρ) QS=Tv (f ρ) (λp=>∃ l,ρ[i]?=some (some (.ow (.lst l)))/\Tv (fi ρ) (λk=>∃ n j,k=.int n/\ixN l.length n=some j/\QS (.nx (ρ.set i (some (.ow (.lst (l.set j p)))))))):=by
 unfold Mu;rw[to_bnd];congr 1;funext p
 refine propext ⟨?_,?_⟩
 ·rintro⟨r,e,c,q⟩;split at e
  ·rename_i l hl;refine⟨l,bc hl,?_⟩;rcases bR e with⟨z,e1,rfl⟩|⟨k,e1,e2⟩
   ·exact c.elim
   ·split at e2
    ·rename_i n;split at e2
     ·rename_i j hj;cases e2;exact⟨_,e1,n,j,rfl,hj,q⟩
     ·cases e2
    ·cases e2
  ·cases e
 ·rintro⟨l,e,k,e1,n,j,ek,hj,q⟩;subst ek;have eo:ownAt i ρ=some (.lst l):=by unfold ownAt;rw[e]
  show To (match ownAt i ρ with|some (.lst l)=>_|_=>none) QS
  rw[eo];exact⟨.nx _,by simp only[e1,eE,hj],trivial,q⟩
theorem to_frz:To (Tp i s ρ) QS=To (s (Cj i ρ)) QS:=rfl
theorem RL{p:PV}(h:ρ[i]?=some (some (.ow p))):Cj i ρ=ρ.set i (some (.sh p)):=by unfold Cj ownAt;rw[h]
theorem jj{c:Int->Int->Bool}{F:Int->Int->PV}{x y:Int}{Q:PV->Prop}:Tv (MP.opI c F (.int x) (.int y)) Q=(c x y=true/\Q (F x y)):=bH
theorem tv_sub{x y:Int}{Q:PV->Prop}:Tv (vP (.int x) (.int y)) Q=Q (.int (x-y)):=by unfold vP;rw[jj];simp[cT]
theorem tv_and'{x y:Int}{Q:PV->Prop}:Tv (zp (.int x) (.int y)) Q=Q (.int (Builtin.bitAnd x y)):=by unfold zp;rw[jj];simp[cT]
theorem tv_or'{x y:Int}{Q:PV->Prop}:Tv (Hd (.int x) (.int y)) Q=Q (.int (Builtin.bitOr x y)):=by unfold Hd;rw[jj];simp[cT]
theorem tv_ge{x y:Int}{Q:PV->Prop}:Tv (Mx (.int x) (.int y)) Q=Q (.bl (decide (y<=x))):=by unfold Mx;rw[jj];simp[cT]
theorem tv_div{x y:Int}{Q:PV->Prop}:Tv (lC (.int x) (.int y)) Q=((0<y/\y<1073741824)/\Q (.int (x/y))):=by unfold lC;rw[jj];simp[Q8]
theorem tv_mod{x y:Int}{Q:PV->Prop}:Tv (fL (.int x) (.int y)) Q=(0<y/\Q (.int (x%y))):=by unfold fL;rw[jj];simp[Te]
theorem tv_pow{x y:Int}{Q:PV->Prop}:Tv (zm (.int x) (.int y)) Q=((0<=y/\y<=1000000/\x.natAbs<2^64)/\Q (.int (x^y.toNat))):=by unfold zm;rw[jj];simp[JL]
theorem tv_shl{x y:Int}{Q:PV->Prop}:Tv (tH (.int x) (.int y)) Q=((0<=y/\y<=1000000/\x.natAbs<2^64)/\Q (.int (x*2^y.toNat))):=by unfold tH;rw[jj];simp[JL]
theorem tv_add{x y:Int}{Q:PV->Prop}:Tv (dh (.int x) (.int y)) Q=Q (.int (x+y)):=tv_some
theorem tv_addS{x y:Str}{Q:PV->Prop}:Tv (dh (.str x) (.str y)) Q=(x.length+y.length<=sizeLine/\Q (.str (x++y))):=bH
theorem tv_addT{x y:List PV}{Q:PV->Prop}:Tv (dh (.tup x) (.tup y)) Q=((x≠[]/\x.length+y.length<=sizeLine)/\Q (.tup (x++y))):=bH
theorem tv_mul{x y:Int}{Q:PV->Prop}:Tv (qM (.int x) (.int y)) Q=(Bu x y/\Q (.int (x*y))):=by
 show Tv (if JK x y=true then _ else none) Q=_
 rw[bH];unfold JK Bu;simp
theorem tv_mulS{z:Str}{n:Int}{Q:PV->Prop}:Tv (qM (.str z) (.int n)) Q=((-(2^63)<=n/\n<2^63/\z.length*n.toNat<=sizeLine)/\Q (.str (zq z n.toNat))):=bH
theorem tv_lt{x y:Int}{Q:PV->Prop}:Tv (xf (.int x) (.int y)) Q=Q (.bl (decide (x<y))):=tv_some
theorem tv_ltS{x y:Str}{Q:PV->Prop}:Tv (xf (.str x) (.str y)) Q=Q (.bl (decide (x.cps.toList<y.cps.toList))):=tv_some
theorem tv_le{x y:Int}{Q:PV->Prop}:Tv (tK (.int x) (.int y)) Q=Q (.bl (decide (x<=y))):=tv_some
theorem tv_leS{x y:Str}{Q:PV->Prop}:Tv (tK (.str x) (.str y)) Q=Q (.bl (!(decide (y.cps.toList<x.cps.toList)))):=tv_some
theorem tv_eq{p q:PV}{Q:PV->Prop}:Tv (kY p q) Q=∃ r,eqF 32 p q=some r/\Q (.bl r):=by
 refine propext ⟨?_,λ⟨r,e,k⟩=>⟨_,by unfold kY;rw[e],k⟩⟩
 rintro⟨r,e,k⟩;unfold kY at e;split at e
 ·rename_i b hb;cases e;exact⟨b,hb,k⟩
 ·cases e
theorem tv_ne{p q:PV}{Q:PV->Prop}:Tv (vd p q) Q=∃ r,eqF 32 p q=some r/\Q (.bl (!r)):=by
 refine propext ⟨?_,λ⟨r,e,k⟩=>⟨_,by unfold vd;rw[e],k⟩⟩
 rintro⟨r,e,k⟩;unfold vd at e;split at e
 ·rename_i b hb;cases e;exact⟨b,hb,k⟩
 ·cases e
theorem eqF_int(n:Nat)(i j:Int):eqF n (.int i) (.int j)=some (decide (i=j)):=by cases n<;>rfl
theorem eqF_str(n:Nat)(i j:Str):eqF n (.str i) (.str j)=some (decide (i=j)):=by cases n<;>rfl
theorem eqF_bl(n:Nat)(i j:Bool):eqF n (.bl i) (.bl j)=some (decide (i=j)):=by cases n<;>rfl
theorem tv_eqI{x y:Int}{Q:PV->Prop}:Tv (kY (.int x) (.int y)) Q=Q (.bl (decide (x=y))):=by rw[tv_eq,eqF_int];simp
theorem tv_eqS{x y:Str}{Q:PV->Prop}:Tv (kY (.str x) (.str y)) Q=Q (.bl (decide (x=y))):=by rw[tv_eq,eqF_str];simp
theorem tv_neI{x y:Int}{Q:PV->Prop}:Tv (vd (.int x) (.int y)) Q=Q (.bl (!decide (x=y))):=by rw[tv_ne,eqF_int];simp
theorem tv_neS{x y:Str}{Q:PV->Prop}:Tv (vd (.str x) (.str y)) Q=Q (.bl (!decide (x=y))):=by rw[tv_ne,eqF_str];simp
theorem tv_in{p q:PV}{Q:PV->Prop}:Tv (Hf p q) Q=∃ r,inU p q=some r/\Q (.bl r):=by
 refine propext ⟨?_,λ⟨r,e,k⟩=>⟨_,by unfold Hf;rw[e],k⟩⟩
 rintro⟨r,e,k⟩;unfold Hf at e;split at e
 ·rename_i b hb;cases e;exact⟨b,hb,k⟩
 ·cases e
theorem tv_notin{p q:PV}{Q:PV->Prop}:Tv (mR p q) Q=∃ r,inU p q=some r/\Q (.bl (!r)):=by
 refine propext ⟨?_,λ⟨r,e,k⟩=>⟨_,by unfold mR;rw[e],k⟩⟩
 rintro⟨r,e,k⟩;unfold mR at e;split at e
 ·rename_i b hb;cases e;exact⟨b,hb,k⟩
 ·cases e
theorem xQ{x:Option PV}{Q:PV->Prop}:Tv (ofO x) Q=∃ p,x=some p/\Q p:=by
 refine propext ⟨?_,λ⟨p,e,k⟩=>⟨_,by subst e;rfl,k⟩⟩
 rintro⟨r,e,k⟩;obtain⟨p,e1,e2⟩:=o8 e;cases e2;exact⟨_,e1,k⟩
theorem tv_ixL{l:List PV}{n:Int}{Q:PV->Prop}:Tv (bW (.lst l) (.int n)) Q=∃ p,atI l n=some p/\Q p:=xQ
theorem tv_ixT{l:List PV}{n:Int}{Q:PV->Prop}:Tv (bW (.tup l) (.int n)) Q=∃ p,atI l n=some p/\Q p:=xQ
theorem tv_ixV{l:List PV}{n:Int}{Q:PV->Prop}:Tv (vQ l (.int n)) Q=∃ p,atI l n=some p/\Q p:=xQ
theorem tv_ixS{z:Str}{n:Int}{Q:PV->Prop}:Tv (bW (.str z) (.int n)) Q=(z.length<=sizeLine/\∃ c,atI z.cps.toList n=some c/\Q (.str ⟨#[c]⟩)):=by
 show Tv (if z.length<=sizeLine then _ else none) Q=_
 by_cases hz:z.length<=sizeLine
 ·rw[Zae hz,xQ];simp only[hz,true_and];refine propext ⟨?_,λ⟨c,e,k⟩=>⟨_,by rw[e];rfl,k⟩⟩
  rintro⟨p,e,k⟩;cases e1:atI z.cps.toList n with
  |none=>rw[e1] at e;cases e
  |some c=>rw[e1] at e;cases e;exact⟨c,rfl,k⟩
 ·rw[Zaf hz];exact propext ⟨λ⟨r,e,q⟩=>(nomatch e),λ⟨z,_⟩=>absurd z hz⟩
theorem tv_lenS{z:Str}{Q:PV->Prop}:Tv (pB (.str z)) Q=(z.length<=sizeLine/\Q (.int z.length)):=bH
theorem tv_lenL{l:List PV}{Q:PV->Prop}:Tv (pB (.lst l)) Q=Q (.int l.length):=tv_some
theorem tv_lenT{l:List PV}{Q:PV->Prop}:Tv (pB (.tup l)) Q=Q (.int l.length):=tv_some
theorem tv_is{T:String}{Q:PV->Prop}:Tv (xr p (.ty T)) Q=∃ b,isI p T=some b/\Q (.bl b):=by
 refine propext ⟨?_,λ⟨r,e,k⟩=>⟨_,by unfold xr;simp only[e],k⟩⟩
 rintro⟨r,e,k⟩;unfold xr at e;simp only at e;split at e
 ·rename_i b hb;cases e;exact⟨b,hb,k⟩
 ·cases e
theorem tv_asBl{b:Bool}{Q:Bool->Prop}:Tv (fj (.bl b)) Q=Q b:=tv_some
theorem tv_not{b:Bool}{Q:PV->Prop}:Tv (JC (.bl b)) Q=Q (.bl (!b)):=tv_some
theorem tv_intI{x:Int}{Q:PV->Prop}:Tv (Es (.int x)) Q=Q (.int x):=tv_some
theorem tv_intB{x:Bool}{Q:PV->Prop}:Tv (Es (.bl x)) Q=Q (.int (if x then 1 else 0)):=tv_some
theorem tv_list{l:List PV}{Q:PV->Prop}:Tv (xu l) Q=Q (.lst l):=tv_some
theorem tv_listT{l:List PV}{Q:PV->Prop}:Tv (xx (.tup l)) Q=Q (.lst l):=tv_some
theorem tv_opTup{l:List PV}{Q:PV->Prop}:Tv (JZ l) Q=Q (.tup l):=tv_some
theorem tv_cat{l m:List PV}{Q:PV->Prop}:Tv (tQ l m) Q=(l.length+m.length<=sizeLine/\Q (.lst (l++m))):=bH
theorem tv_asSeqL{l:List PV}{Q:List PV->Prop}:Tv (lD (.lst l)) Q=Q l:=tv_some
theorem tv_asSeqT{l:List PV}{Q:List PV->Prop}:Tv (lD (.tup l)) Q=Q l:=tv_some
theorem tv_asSeqS{z:Str}{Q:List PV->Prop}:Tv (lD (.str z)) Q=Q (signs z):=tv_some
theorem tv_rng1{j:Int}{Q:List PV->Prop}:Tv (xn [.int j]) Q=((-(2^62)<=j/\j<2^62)/\Q (kZ 0 j.toNat)):=bH
theorem tv_rng2{x y:Int}{Q:List PV->Prop}:Tv (tR [.int x,.int y]) Q=((-(2^62)<=x/\x<2^62/\-(2^62)<=y/\y<2^62)/\Q (kZ x (y-x).toNat)):=bH
theorem tv_pn{Q:Option Int->Prop}:Tv (mPn ρ) Q=Q none:=tv_some
theorem tv_asInt{x:Int}{Q:Option Int->Prop}:Tv (asInt (.int x)) Q=Q (some x):=tv_some
theorem tv_slL{f:Fn (List PV)}{lo hi:Fn (Option Int)}{Q:PV->Prop}:Tv (Mz f lo hi ρ) Q=Tv (f ρ) (λl=>Tv (lo ρ) (λa=>Tv (hi ρ) (λb=>Q (.lst (o9 l a b))))):=by
 unfold Mz;simp only[tv_bnd,tv_some]
theorem tv_opSlS{x:Str}{a b:Option Int}{Q:PV->Prop}:Tv (JP a b (.str x)) Q=(x.length<=sizeLine/\Q (.str (Txt.slice x a b))):=bH
theorem tv_opSlT{l:List PV}{a b:Option Int}{Q:PV->Prop}:Tv (JS a b (.tup l)) Q=(¬(HT.sIx l.length 0 a=0/\HT.sIx l.length l.length b=l.length)/\Q (.tup (o9 l a b))):=bH
theorem tv_slS{lo hi:Fn (Option Int)}{Q:PV->Prop}:Tv (JQ f lo hi ρ) Q=Tv (f ρ) (λz=>Tv (lo ρ) (λa=>Tv (hi ρ) (λb=>Tv (JP a b z) Q))):=by
 unfold JQ;simp only[tv_bnd]
theorem tv_slT{lo hi:Fn (Option Int)}{Q:PV->Prop}:Tv (Cm f lo hi ρ) Q=Tv (f ρ) (λz=>Tv (lo ρ) (λa=>Tv (hi ρ) (λb=>Tv (JS a b z) Q))):=by
 unfold Cm;simp only[tv_bnd]
theorem tv_opRep{l:List PV}{n:Int}{Q:PV->Prop}:Tv (JN (.lst l) (.int n)) Q=((-(2^63)<=n/\n<2^63/\l.length*n.toNat<=sizeLine)/\Q (.lst (List.replicate n.toNat l).flatten)):=bH
theorem tv_rep{Q:PV->Prop}:Tv (Rc f g ρ) Q=Tv (f ρ) (λa=>Tv (g ρ) (λb=>Tv (JN a b) Q)):=tv_m2
theorem tv_all{l:List PV}{Q:PV->Prop}:Tv (tX l) Q=∃ bs,iC l=some bs/\Q (.bl (bs.all id)):=by
 refine propext ⟨?_,λ⟨r,e,k⟩=>⟨_,by unfold tX;rw[e],k⟩⟩
 rintro⟨r,e,k⟩;unfold tX at e;split at e
 ·rename_i b hb;cases e;exact⟨b,hb,k⟩
 ·cases e
end
section
variable{Q:PV->Prop}{ρ:Rho}{i j:Nat}{g:Fn PV}
theorem tv_consO{g:Fn (List PV)}{Q:List PV->Prop}:Tv (eG i g ρ) Q=∃ p,ρ[i]?=some (some (.ow p))/\Tv (g ρ) (λl=>Q (p::l)):=by
 unfold eG;cases h:ownAt i ρ with
 |none=>
  simp only;rw[m8];exact propext ⟨λh=>h.elim,λ⟨p,e,_⟩=>by unfold ownAt at h;rw[e] at h;cases h⟩
 |some p=>
  simp only;rw[tv_bnd];simp only[tv_some];exact propext ⟨λq=>⟨p,bc h,q⟩,λ⟨p',e,q⟩=>by rw[bc h] at e;cases e;exact q⟩
theorem finIO_nx{p:PV}:(Tr j (some (.nx ρ))=some (.ok p))=(ρ[j]?=some (some (.ow p))):=by
 show((match ownAt j ρ with|some p=>some (Res.ok p)|none=>none)=some (.ok p))=_
 cases h:ownAt j ρ with
 |none=>exact propext ⟨λe=>(nomatch e),λe=>by unfold ownAt at h;rw[e] at h;cases h⟩
 |some q=>exact propext ⟨λe=>by cases e;exact bc h,λe=>by rw[bc h] at e;cases e;rfl⟩
end
def turn(I:Rho->Prop)(QS:Out->Prop):Out->Prop
 |.nx ρ=>I ρ
 |.ct ρ=>I ρ
 |.bk ρ=>QS (.nx ρ)
 |o=>QS o
theorem turn_nx{I:Rho->Prop}{QS:Out->Prop}{ρ:Rho}:turn I QS (.nx ρ)=I ρ:=rfl
theorem turn_ct{I:Rho->Prop}{QS:Out->Prop}{ρ:Rho}:turn I QS (.ct ρ)=I ρ:=rfl
theorem turn_bk{I:Rho->Prop}{QS:Out->Prop}{ρ:Rho}:turn I QS (.bk ρ)=QS (.nx ρ):=rfl
theorem turn_rt{I:Rho->Prop}{QS:Out->Prop}{p:PV}:turn I QS (.rt p)=QS (.rt p):=rfl
theorem turn_ro{I:Rho->Prop}{QS:Out->Prop}{p:PV}:turn I QS (.ro p)=QS (.ro p):=rfl
theorem turn_rd{I:Rho->Prop}{QS:Out->Prop}{p:PV}:turn I QS (.rd p)=QS (.rd p):=rfl
theorem NZ{tg:PV->Rho->Option Rho}{body:Sn}{QS:Out->Prop}(I:Nat->Rho->Prop):∀ {l:List PV}{ρ:Rho},I 0 ρ ->
  (∀ (i:Nat) x ρ,l[i]?=some x->I i ρ->∃ ρ1,tg x ρ=some ρ1/\To (body ρ1) (turn (I (i+1)) QS)) ->
  (∀ ρ',I l.length ρ'->QS (.nx ρ'))->To (loop tg body l ρ) QS:=by
 intro l;induction l generalizing I with
 |nil=>exact λh0 _ hd=>⟨_,rfl,trivial,hd _ h0⟩
 |cons x xs ih=>
  intro ρ h0 hs hd;obtain⟨ρ1,e1,o,e2,c,q⟩:=hs 0 x ρ rfl h0;unfold To;rw[loop,e1];simp only[e2];cases o with
  |nx ρ2=>exact ih (λi=>I (i+1)) q (λi y ρ e=>hs (i+1) y ρ (by simpa using e)) hd
  |ct ρ2=>exact ih (λi=>I (i+1)) q (λi y ρ e=>hs (i+1) y ρ (by simpa using e)) hd
  |bk ρ2=>exact⟨_,rfl,trivial,q⟩
  |rt p=>exact⟨_,rfl,trivial,q⟩
  |ro p=>exact⟨_,rfl,trivial,q⟩
  |rd p=>exact⟨_,rfl,trivial,q⟩
  |ex z=>exact c.elim
theorem Fy{x:Option Out}{I:Rho->Prop}{Q:Out->Prop}(h:∀ QS:Out->Prop,(∀ ρ,I ρ->QS (.nx ρ))->To x QS):To x (turn I Q):=h _ λ_ h=>h
theorem Ac{x:Option Out}{Q:Out->Prop}(h:∀ QS:Out->Prop,(∀ o,Q o->QS o)->To x QS):To x Q:=h _ λ_ h=>h
theorem gk{j:Nat}{body:Sn}{QS:Out->Prop}(I:Nat->Rho->Prop){l:List PV}{ρ:Rho}(h0:I 0 ρ)
  (hs:∀ (i:Nat) x ρ,l[i]?=some x->I i ρ->To (body (ρ.set j (some (.sh x)))) (turn (I (i+1)) QS))(hd:∀ ρ',I l.length ρ'->QS (.nx ρ')):To (loop (gN j) body l ρ) QS:=
 NZ I h0 (λi x ρ e hI=>⟨_,rfl,hs i x ρ e hI⟩) hd
theorem bT{x:Option Out}{r:Res PV}(h:To x λo=>fin (some o)=some r):fin x=some r:=by
 obtain⟨o,e,_,q⟩:=h;rw[e];exact q
theorem N5{x:Option Out}{r:Res PV}(h:To x λo=>zz (some o)=some r):zz x=some r:=by
 obtain⟨o,e,_,q⟩:=h;rw[e];exact q
theorem Ky{x:Option Out}{P:PV->Prop}(h:To x λo=>∃ p,fin (some o)=some (.ok p)/\P p):∃ p,fin x=some (.ok p)/\P p:=by
 obtain⟨o,e,_,q⟩:=h;rw[e];exact q
theorem N6{x:Option Out}{P:PV->Prop}(h:To x λo=>∃ p,zz (some o)=some (.ok p)/\P p):∃ p,zz x=some (.ok p)/\P p:=by
 obtain⟨o,e,_,q⟩:=h;rw[e];exact q
theorem fin_nx{ρ:Rho}:fin (some (.nx ρ))=some (.ok .non):=rfl
theorem fin_rt{p:PV}:fin (some (.rt p))=some (.ok p):=rfl
theorem finO_ro{p:PV}:zz (some (.ro p))=some (.ok p):=rfl
theorem HD{tg:PV->Rho->Option Rho}{body:Sn}{x:PV}{xs:List PV}{ρ ρ1 ρ2:Rho}(h1:tg x ρ=some ρ1)(h2:body ρ1=some (.nx ρ2)):loop tg body (x::xs) ρ=loop tg body xs ρ2:=by
 rw[loop,h1];simp only[h2]
theorem Ad{tg:PV->Rho->Option Rho}{tst:Fn Bool}{el:Fn PV}{ρb:Rho}(t:PV->Bool)(f:PV->PV):∀ (l:List PV),
  (∀ x∈l,∃ ρ1,tg x ρb=some ρ1/\tst ρ1=some (.ok (t x))/\(t x=true->el ρ1=some (.ok (f x))))->fM tg tst el ρb l=some (.ok ((l.filter t).map f))
 |[],_=>rfl
 |x::xs,h=>by
  obtain⟨ρ1,e1,e2,e3⟩:=h x ZaO;have ih:=Ad t f xs λy hy=>h y (Zat _ hy);rw[fM,e1];simp only[e2,bnd];cases ht:t x with
  |true=>rw[Zae rfl,e3 ht];simp only[ih,List.filter_cons,ht,ZaU,ZaA]
  |false=>rw[Zaf (by decide)];simp only[ih,List.filter_cons,ht,Zbl,ZaI]
theorem HF{tg:PV->Rho->Option Rho}{el:Fn PV}{ρb:Rho}(f:PV->PV)(l:List PV)(h:∀ x∈l,∃ ρ1,tg x ρb=some ρ1/\el ρ1=some (.ok (f x))):fM tg rC el ρb l=some (.ok (l.map f)):=by
 have:=Ad (tg:=tg) (tst:=rC) (el:=el) (ρb:=ρb) (λ_=>true) f l λx hx=>let⟨ρ1,a,b⟩:=h x hx;⟨ρ1,a,rfl,λ_=>b⟩
 rwa [List.filter_eq_self.mpr λ_ _=>rfl] at this
theorem tv_compN{tg:PV->Rho->Option Rho}{tst:Fn Bool}{el:Fn PV}{ρb:Rho}{Q:List PV->Prop}:Tv (fM tg tst el ρb []) Q=Q []:=tv_some
theorem tv_compC{j:Nat}{tst:Fn Bool}{el:Fn PV}{ρb:Rho}{x:PV}{xs:List PV}{Q:List PV->Prop}:Tv (fM (gN j) tst el ρb (x::xs)) Q =
  Tv (tst (ρb.set j (some (.sh x)))) (λb=>if b=true then Tv (el (ρb.set j (some (.sh x)))) (λp=>Tv (fM (gN j) tst el ρb xs) (λr=>Q (p::r))) else Tv (fM (gN j) tst el ρb xs) Q):=by
 rw[fM];simp only[gN,tv_bnd,tv_ite,tv_some]
theorem tv_yes{ρ:Rho}{Q:Bool->Prop}:Tv (rC ρ) Q=Q true:=tv_some
theorem PL{α:Type}{x:Option (Res α)}{q:α}(h:Tv x λp=>p=q):x=some (.ok q):=by
 obtain⟨p,e,rfl⟩:=h;exact e
theorem T4{j:Nat}{el:Fn PV}{ρb:Rho}{l:List PV}(f:PV->PV)(h:∀ x∈l,Tv (el (ρb.set j (some (.sh x)))) λp=>p=f x):fM (gN j) rC el ρb l=some (.ok (l.map f)):=
 HF f l λx hx=>⟨_,rfl,PL (h x hx)⟩
def szP(w h:Int):PV:=.tup [.int w,.int h]
def cellP(c:Int×Int):PV:=.tup [.int c.1,.int c.2]
theorem snocI(l:List Int)(a:Int):l.map PV.int++[PV.int a]=(l++[a]).map PV.int:=by rw[Za5];rfl
theorem snocS(l:List Str)(a:Str):l.map PV.str++[PV.str a]=(l++[a]).map PV.str:=by rw[Za5];rfl
theorem snocC(l:List (Int×Int))(a b:Int):l.map cellP++[PV.tup [.int a,.int b]]=(l++[(a,b)]).map cellP:=by rw[Za5];rfl
theorem is_non_int:isI .non "int"=some false:=rfl
theorem is_non_bool:isI .non "bool"=some false:=rfl
theorem is_non_str:isI .non "str"=some false:=rfl
theorem is_non_list:isI .non "list"=some false:=rfl
theorem is_non_tuple:isI .non "tuple"=some false:=rfl
theorem is_non_dict:isI .non "dict"=some false:=rfl
theorem is_bl_int{b:Bool}:isI (.bl b) "int"=some true:=rfl
theorem is_bl_bool{b:Bool}:isI (.bl b) "bool"=some true:=rfl
theorem is_bl_str{b:Bool}:isI (.bl b) "str"=some false:=rfl
theorem is_bl_list{b:Bool}:isI (.bl b) "list"=some false:=rfl
theorem is_bl_tuple{b:Bool}:isI (.bl b) "tuple"=some false:=rfl
theorem is_bl_dict{b:Bool}:isI (.bl b) "dict"=some false:=rfl
theorem is_int_int{i:Int}:isI (.int i) "int"=some true:=rfl
theorem is_int_bool{i:Int}:isI (.int i) "bool"=some false:=rfl
theorem is_int_str{i:Int}:isI (.int i) "str"=some false:=rfl
theorem is_int_list{i:Int}:isI (.int i) "list"=some false:=rfl
theorem is_int_tuple{i:Int}:isI (.int i) "tuple"=some false:=rfl
theorem is_int_dict{i:Int}:isI (.int i) "dict"=some false:=rfl
theorem is_str_int{z:Str}:isI (.str z) "int"=some false:=rfl
theorem is_str_bool{z:Str}:isI (.str z) "bool"=some false:=rfl
theorem is_str_str{z:Str}:isI (.str z) "str"=some true:=rfl
theorem is_str_list{z:Str}:isI (.str z) "list"=some false:=rfl
theorem is_str_tuple{z:Str}:isI (.str z) "tuple"=some false:=rfl
theorem is_str_dict{z:Str}:isI (.str z) "dict"=some false:=rfl
theorem is_tup_int{l:List PV}:isI (.tup l) "int"=some false:=rfl
theorem is_tup_bool{l:List PV}:isI (.tup l) "bool"=some false:=rfl
theorem is_tup_str{l:List PV}:isI (.tup l) "str"=some false:=rfl
theorem is_tup_list{l:List PV}:isI (.tup l) "list"=some false:=rfl
theorem is_tup_tuple{l:List PV}:isI (.tup l) "tuple"=some true:=rfl
theorem is_tup_dict{l:List PV}:isI (.tup l) "dict"=some false:=rfl
theorem is_lst_int{l:List PV}:isI (.lst l) "int"=some false:=rfl
theorem is_lst_bool{l:List PV}:isI (.lst l) "bool"=some false:=rfl
theorem is_lst_str{l:List PV}:isI (.lst l) "str"=some false:=rfl
theorem is_lst_list{l:List PV}:isI (.lst l) "list"=some true:=rfl
theorem is_lst_tuple{l:List PV}:isI (.lst l) "tuple"=some false:=rfl
theorem is_lst_dict{l:List PV}:isI (.lst l) "dict"=some false:=rfl
theorem Ae{α:Type}{g:α->PV}[DecidableEq α](h:∀ a b,eqF 31 (g a) (g b)=some (decide (a=b)))(a:α):∀ l:List α,inF (g a) (l.map g)=some (decide (a∈l))
 |[]=>rfl
 |x::xs=>by
  rw[ZaA,inF,h x a,Ae h a xs];simp only[ZaB,Bool.decide_or];congr 2
  exact decide_eq_decide.mpr ⟨λe=>e.symm,λe=>e.symm⟩
theorem xR{α:Type}{g:α->PV}[DecidableEq α](h:∀ a b,eqF 31 (g a) (g b)=some (decide (a=b)))(a:α)(l:List α)[Decidable (a∈l)]:inF (g a) (l.map g)=some (decide (a∈l)):=by
 rw[Ae h a l];congr 1
 exact decide_eq_decide.mpr Iff.rfl
theorem HJ{ns:List Int}{i:Int}(h0:0<=i)(h:i<ns.length):atI (ns.map PV.int) i=some (.int (ns.getD i.toNat 0)):=by
 obtain⟨v,e1,e2⟩:=sX (xs:=ns.map PV.int) h0 (by rw[Zam];exact h)
 rw[e1];rw[Zai] at e2;have hl:i.toNat<ns.length:=by lia
 rw[Zav hl] at e2;rw[ZaR,Zav hl];exact e2.symm
theorem atI_0{p:PV}{l:List PV}:atI (p::l) 0=some p:=oM (j:=0) rfl
theorem atI_1{p q:PV}{l:List PV}:atI (p::q::l) 1=some q:=oM (j:=1) rfl
theorem atI_2{p q r:PV}{l:List PV}:atI (p::q::r::l) 2=some r:=oM (j:=2) rfl
theorem atI_3{p q r s:PV}{l:List PV}:atI (p::q::r::s::l) 3=some s:=oM (j:=3) rfl
theorem N7(ns:List Int)(lo hi:Option Int):∃ ms:List Int,o9 (ns.map PV.int) lo hi=ms.map PV.int/\ms.length<=ns.length:=by
 refine⟨(ns.drop (HT.sIx ns.length 0 lo)).take (HT.sIx ns.length ns.length hi-HT.sIx ns.length 0 lo),?_,?_⟩
 ·unfold o9;rw[Zam,List.map_take,List.map_drop]
 ·rw[Zbu,ZbS];omega
theorem tv_xor{x y:Int}{Q:PV->Prop}:Tv (Em (.int x) (.int y)) Q=Q (.int (Builtin.bitXor x y)):=by unfold Em;rw[jj];simp[cT]
theorem tv_newD{ρ:Rho}{Q:PV->Prop}:Tv (zB ρ) Q=Q (.dk []):=tv_some
theorem is_dk_int{l:List (Key×PV)}:isI (.dk l) "int"=some false:=rfl
theorem is_dk_str{l:List (Key×PV)}:isI (.dk l) "str"=some false:=rfl
section
variable{ρ:Rho}{f g h:Fn PV}{i:Nat}{Q:PV->Prop}{QS:Out->Prop}{d k p:PV}
theorem Kz:Tv (asD p) Q=(p.isD=true/\Q p):=bH
theorem tv_viewD:Tv (t6 f ρ) Q=Tv (f ρ) (λp=>p.isD=true/\Q p):=by unfold t6;rw[tv_bnd];simp only[Kz]
theorem tv_viewDN:Tv (iD i ρ) Q=Tv (mVL i ρ) (λp=>p.isD=true/\Q p):=by unfold iD;rw[tv_bnd];simp only[Kz]
theorem Fz{α:Type}{o:Option α}{F:α->PV}:Tv (o.map λr=>Res.ok (F r)) Q=∃ r,o=some r/\Q (F r):=by
 cases o with
 |none=>exact propext ⟨(λ⟨_,e,_⟩=>by cases e),(λ⟨_,e,_⟩=>by cases e)⟩
 |some r=>exact propext ⟨λ⟨_,e,q⟩=>by cases e;exact⟨r,rfl,q⟩,λ⟨_,e,q⟩=>by cases e;exact⟨_,rfl,q⟩⟩
theorem tv_opDGet:Tv (jW d k) Q=∃ p,kI d k=some (some p)/\Q p:=by
 unfold jW;split
 ·rename_i p h;rw[h,tv_some];exact propext ⟨λq=>⟨p,rfl,q⟩,λ⟨_,e,q⟩=>by cases e;exact q⟩
 ·rename_i h;rw[m8];exact propext ⟨λz=>z.elim,λ⟨p,e,_⟩=>(h p e).elim⟩
theorem tv_opDIn:Tv (zF k d) Q=∃ r,kI d k=some r/\Q (.bl r.isSome):=by unfold zF;rw[Fz]
theorem tv_opDNotIn:Tv (lJ k d) Q=∃ r,kI d k=some r/\Q (.bl (!r.isSome)):=by unfold lJ;rw[Fz]
theorem tv_ofR{mk:List PV->PV}{j:Int}:Tv (J5 mk (.int j)) Q=((-(2^30)<=j/\j<=1000000)/\Q (mk ((List.range j.toNat).map λi=>.int (i:Nat)))):=bH
theorem tv_inv{j:Int}:Tv (J6 (.int j)) Q=Q (.int (Builtin.bitNot j)):=tv_some
theorem to_dput:To (zG i f g ρ) QS=Tv (f ρ) (λp=>∃ d,ρ[i]?=some (some (.ow d))/\Tv (g ρ) (λk=>∃ d',Cr d k p=some d'/\QS (.nx (ρ.set i (some (.ow d')))))):=by
 unfold zG;rw[to_bnd];congr 1;funext p
 refine propext ⟨?_,?_⟩
 ·rintro⟨r,e,c,q⟩;split at e
  ·rename_i d hd;refine⟨d,bc hd,?_⟩;rcases bR e with⟨z,e1,rfl⟩|⟨k,e1,e2⟩
   ·exact c.elim
   ·split at e2
    ·rename_i d' h';cases e2;exact⟨k,e1,d',h',q⟩
    ·cases e2
  ·cases e
 ·rintro⟨d,e,k,e1,d',h1,q⟩;refine⟨.nx (ρ.set i (some (.ow d'))),?_,trivial,q⟩;have eo:ownAt i ρ=some d:=by unfold ownAt;rw[e]
  rw[eo];simp only[e1,Ms,h1]
end
section
variable{l:List (Key×PV)}{t:List (List Key×PV)}{ks:List PV}{n:Int}{z:Str}{p:PV}
theorem dF_int:kI (.dk l) (.int n)=some (fK l (.inl n)):=rfl
theorem dF_str:kI (.dk l) (.str z)=some (fK l (.inr z)):=rfl
theorem dF_tup:kI (.dt t) (.tup ks)=(jV ks).map (fK t):=rfl
theorem xT:Cr (.dk l) (.str z) p=if l.length<sizeLine then some (.dk (dG l (.inr z) p)) else none:=rfl
theorem isD_dk:(PV.dk l).isD=true:=rfl
theorem isD_dt:(PV.dt t).isD=true:=rfl
end
section
variable{κ:Type}[DecidableEq κ]
theorem di(k j:κ)(p:PV):∀ l:List (κ×PV),fK (dG l k p) j=if j=k then some p else fK l j
 |[]=>by
  unfold dG fK;by_cases h:k=j
  ·rw[Zae h,Zae h.symm]
  ·rw[Zaf h,Zaf (ZaS h)];rfl
 |(a,q)::l=>by
  have ih:=di k j p l;unfold dG;by_cases h:a=k
  ·rw[Zae h];subst h;unfold fK;by_cases h2:a=j
   ·rw[Zae h2,Zae h2.symm]
   ·rw[Zaf h2,Zaf (ZaS h2),Zaf h2];split
    ·rw[ih,Zaf (ZaS h2)]
    ·rfl
  ·rw[Zaf h];unfold fK;by_cases h2:a=j
   ·rw[Zae h2,Zae h2,Zaf (λz=>h (h2.trans z))]
   ·rw[Zaf h2,Zaf h2,ih]
theorem gm(k:κ)(p:PV):∀ l:List (κ×PV),(dG l k p).length<=l.length+1
 |[]=>by simp[dG]
 |(a,q)::l=>by
  have ih:=gm k p l;unfold dG;split
  ·split
   ·simp only[Zax];lia
   ·simp only[Zax];lia
  ·simp only[Zax];lia
end
section
variable{f:Fn PV}{ρ:Rho}{Q:PV->Prop}{QS:Out->Prop}{i:Nat}{p:PV}
theorem tv_deep:Tv (zM f ρ) Q=Tv (f ρ) (λp=>∃ l,p=.lst l/\l.all PV.still=true/\Q (.lst l)):=by
 unfold zM;rw[tv_bnd];congr 1;funext p
 refine propext ⟨?_,?_⟩
 ·rintro⟨r,e,q⟩;cases p with
  |lst l=>
   have e:(if l.all PV.still=true then some (Res.ok (PV.lst l)) else none)=some (.ok r):=e;split at e
   ·rename_i h;cases e;exact⟨l,rfl,h,q⟩
   ·cases e
  |_=>cases e
 ·rintro⟨l,rfl,h,q⟩;exact⟨_,Zae h,q⟩
theorem tv_still:Tv (t8 f ρ) Q=Tv (f ρ) (λp=>p.still=true/\Q p):=by
 unfold t8;rw[tv_bnd];congr 1;funext p
 exact bH
theorem to_setD:To (EY i f ρ) QS=Tv (f ρ) (λp=>QS (.nx (ρ.set i (some (.dp p))))):=by unfold EY;simp only[to_bnd,to_nx]
theorem tv_fzT{f:Fn Bool}{Q:Bool->Prop}:Tv (Hl i f ρ) Q=∃ p,ρ[i]?=some (some (.dp p))/\Tv (f (ρ.set i (some (.sh p)))) Q:=by
 refine propext ⟨?_,λ⟨p,e,r,e2,q⟩=>⟨r,by unfold Hl ir;rw[e];exact e2,q⟩⟩
 rintro⟨r,e,q⟩;unfold Hl at e;split at e
 ·rename_i p hp;exact⟨p,cN hp,r,e,q⟩
 ·cases e
theorem tv_fz:Tv (mFz i f ρ) Q=∃ p,ρ[i]?=some (some (.dp p))/\Tv (f (ρ.set i (some (.sh p)))) (λq=>q.flat=true/\Q q):=by
 refine propext ⟨?_,λ⟨p,e,r,e2,c,q⟩=>⟨r,by unfold mFz ir;rw[e];simp only[e2,bnd];rw[Zae c],q⟩⟩
 rintro⟨r,e,q⟩;unfold mFz at e;split at e
 ·rename_i p hp;rcases bx e with⟨z,_,e3⟩|⟨a,e3,e4⟩
  ·cases e3
  ·split at e4
   ·rename_i c;cases e4;exact⟨p,cN hp,r,e3,c,q⟩
   ·cases e4
 ·cases e
theorem finT_rd:Um (some (.rd p))=some (.ok p):=rfl
end
section
variable{ρ:Rho}{Q:PV->Prop}{QS:Out->Prop}{p:PV}
def KC(QS:Out->Prop):Out->Prop
 |.rd _=>False
 |o=>QS o
theorem holdQ_nx:KC QS (.nx ρ)=QS (.nx ρ):=rfl
theorem holdQ_rt:KC QS (.rt p)=QS (.rt p):=rfl
theorem holdQ_ro:KC QS (.ro p)=QS (.ro p):=rfl
theorem tv_mulL{x y:Int}:Tv (jX (.int x) (.int y)) Q=((x.natAbs<2^9000/\y.natAbs<2^9000)/\Q (.int (x*y))):=by unfold jX;rw[jj];simp[Px]
end
section
variable{s t:Sn}{ρ:Rho}{z p:PV}{QS:Out->Prop}{Q:PV->Prop}{f:Fn PV}{i:Nat}
theorem PN{c:Fn Bool}(h:Tv (c ρ) λb=>if b=true then s ρ=some (.ex z) else t ρ=some (.ex z)):gf c s t ρ=some (.ex z):=by
 obtain⟨b,e,q⟩:=h;unfold gf;rw[e];cases b<;>exact q
theorem N8(h:f ρ=some (.ex z)):oY f ρ=some (.ex z):=by unfold oY;rw[h];rfl
theorem Oa{m:List PV->Option (Res PV)}{g:Fn (List PV)}(h:Tv (g ρ) λl=>m l=some (.ex z)):cC m g ρ=some (.ex z):=by
 obtain⟨l,e,q⟩:=h;unfold cC;rw[e];exact q
def uz(i:Nat)(QS:Out->Prop):Out->Prop
 |.nx ρ=>QS (.nx (ρ.set i none))
 |.bk ρ=>QS (.bk (ρ.set i none))
 |.ct ρ=>QS (.ct (ρ.set i none))
 |o=>QS o
theorem goneQ_nx:uz i QS (.nx ρ)=QS (.nx (ρ.set i none)):=rfl
theorem goneQ_bk:uz i QS (.bk ρ)=QS (.bk (ρ.set i none)):=rfl
theorem goneQ_ct:uz i QS (.ct ρ)=QS (.ct (ρ.set i none)):=rfl
theorem goneQ_rt:uz i QS (.rt p)=QS (.rt p):=rfl
theorem goneQ_ro:uz i QS (.ro p)=QS (.ro p):=rfl
theorem to_gone{x:Option Out}:To (PK i x) QS=To x (uz i QS):=by
 refine propext ⟨?_,?_⟩
 ·rintro⟨o,e,c,q⟩;cases x with
  |none=>cases e
  |some y=>cases y<;>cases e<;>first|exact⟨_,rfl,trivial,q⟩|exact c.elim
 ·rintro⟨o,e,c,q⟩;subst e;cases o with
  |ex z=>exact c.elim
  |_=>exact⟨_,rfl,trivial,q⟩
theorem RM{sub:Str->Option Bool}{rest:PV->Sn}{c:Str}{l:List (Str×PV)}(h:sub c=some true):To (Nh sub i s rest (.exc c l) ρ) QS=To (s (ρ.set i (some (.sh (.exc c l))))) (uz i QS):=by
 show To (match sub c with|some true=>_|some false=>_|none=>none) QS=_
 rw[h];exact to_gone
theorem nn_non:PV.non.tL=true:=rfl
theorem nn_int{i:Int}:(PV.int i).tL=false:=rfl
theorem nn_str{z:Str}:(PV.str z).tL=false:=rfl
theorem nn_bl{b:Bool}:(PV.bl b).tL=false:=rfl
theorem nn_tup{l:List PV}:(PV.tup l).tL=false:=rfl
theorem nn_lst{l:List PV}:(PV.lst l).tL=false:=rfl
theorem nn_exc{c:Str}{l:List (Str×PV)}:(PV.exc c l).tL=false:=rfl
def Ut(sub:Str->Option Bool)(no:Bool):PV->Option Bool
 |.exc c _=>sub c
 |.non=>some no
 |_=>none
theorem tv_isX{sub:Str->Option Bool}{no:Bool}:Tv (vg sub no f ρ) Q=Tv (f ρ) (λp=>∃ b,Ut sub no p=some b/\Q (.bl b)):=by
 unfold vg;rw[tv_bnd];congr 1;funext p
 have no':∀ {P:Bool->Prop},Tv (none:Option (Res PV)) Q=∃ b,(none:Option Bool)=some b/\P b:=λ{P}=>by
  rw[m8];exact propext ⟨λh=>h.elim,λ⟨_,e,_⟩=>nomatch e⟩
 cases p with
 |non=>exact propext ⟨λ⟨r,e,q⟩=>by cases e;exact⟨no,rfl,q⟩,λ⟨b,e,q⟩=>by cases e;exact⟨_,rfl,q⟩⟩
 |exc c l=>
  show Tv ((sub c).map λb=>.ok (.bl b)) Q=∃ b,sub c=some b/\_
  cases h:sub c with
  |none=>exact no'
  |some b=>exact propext ⟨λ⟨r,e,q⟩=>by cases e;exact⟨b,rfl,q⟩,λ⟨b,e,q⟩=>by cases e;exact⟨_,rfl,q⟩⟩
 |_=>exact no'
def T8(nm:Str->Bool)(g:Str):PV->Option PV
 |.exc c (x::l)=>if nm c=true then(x::l).lookup g else none
 |_=>none
theorem tv_fldX{nm:Str->Bool}{g:Str}:Tv (zT nm g f ρ) Q=Tv (f ρ) (λp=>∃ q,T8 nm g p=some q/\Q q):=by
 unfold zT;rw[tv_bnd];congr 1;funext p
 have no':Tv (none:Option (Res PV)) Q=∃ b,(none:Option PV)=some b/\Q b:=by
  rw[m8];exact propext ⟨λh=>h.elim,λ⟨_,e,_⟩=>nomatch e⟩
 cases p with
 |exc c l=>
  cases l with
  |nil=>exact no'
  |cons x l=>
   show Tv (if nm c=true then((x::l).lookup g).map .ok else none) Q=∃ q,(if nm c=true then(x::l).lookup g else none)=some q/\Q q
   by_cases hn:nm c=true
   ·rw[Zae hn,Zae hn];cases h:(x::l).lookup g with
    |none=>exact no'
    |some b=>exact propext ⟨λ⟨r,e,q⟩=>by cases e;exact⟨_,rfl,q⟩,λ⟨b,e,q⟩=>by cases e;exact⟨_,rfl,q⟩⟩
   ·rw[Zaf hn,Zaf hn];exact no'
 |_=>exact no'
end
def Ev{α:Type}(x:Option (Res (α×Rho)))(Q:α->Rho->Prop):Prop:=∃ a ρ,x=some (.ok (a,ρ))/\Q a ρ
section
variable{α β:Type}{Q:α->Rho->Prop}{QS:Out->Prop}{ρ:Rho}{i j:Nat}{s t:Sn}
theorem ev_some{a:α}:Ev (some (.ok (a,ρ))) Q=Q a ρ:=propext ⟨λ⟨_,_,e,q⟩=>by cases e;exact q,λq=>⟨_,_,rfl,q⟩⟩
theorem uA{x:Option (Res (β×Rho))}{kk:β->Rho->Option (Res (α×Rho))}:Ev (ug x kk) Q=Ev x (λb ρ=>Ev (kk b ρ) Q):=by
 refine propext ⟨?_,λ⟨b,r,e,q⟩=>by subst e;exact q⟩
 rintro⟨a,r,e,q⟩;rcases uh e with⟨z,_,e2⟩|⟨b,ρ',e1,e2⟩
 ·cases e2
 ·exact⟨b,ρ',e1,a,r,e2,q⟩
theorem KD{x:Option (Res β)}{kk:β->Option (Res (α×Rho))}:Ev (bnd x kk) Q=Tv x (λb=>Ev (kk b) Q):=by
 refine propext ⟨?_,λ⟨b,e,q⟩=>by subst e;exact q⟩
 rintro⟨a,r,e,q⟩;rcases bx e with⟨z,_,e2⟩|⟨b,e1,e2⟩
 ·cases e2
 ·exact⟨b,e1,a,r,e2,q⟩
theorem FJ{x:Option (Res (β×Rho))}{kk:β->Rho->Option Out}:To (lM x kk) QS=Ev x (λb ρ=>To (kk b ρ) QS):=by
 refine propext ⟨?_,λ⟨b,r,e,q⟩=>by subst e;exact q⟩
 rintro⟨a,e,c,q⟩;rcases jB e with⟨z,_,rfl⟩|⟨b,ρ',e1,e2⟩
 ·exact c.elim
 ·exact⟨b,ρ',e1,a,e2,c,q⟩
theorem ev_p{f:Fn α}:Ev (eP f ρ) Q=Tv (f ρ) (λa=>Q a ρ):=by unfold eP;simp only[KD,ev_some]
theorem ev_2{op:PV->PV->Option (Res PV)}{f g:Fe PV}{Q:PV->Rho->Prop}:Ev (e2 op f g ρ) Q=Ev (f ρ) (λa ρ1=>Ev (g ρ1) (λb ρ2=>Tv (op a b) (λc=>Q c ρ2))):=by unfold e2;simp only[uA,KD,ev_some]
theorem ev_nil{Q:List PV->Rho->Prop}:Ev (xO ρ) Q=Q [] ρ:=ev_some
theorem ev_cons{f:Fe PV}{g:Fe (List PV)}{Q:List PV->Rho->Prop}:Ev (gj f g ρ) Q=Ev (f ρ) (λa ρ1=>Ev (g ρ1) (λl ρ2=>Q (a::l) ρ2)):=by unfold gj;simp only[uA,ev_some]
theorem ev_call{m:List PV->Option (Res PV)}{f:Fe (List PV)}{Q:PV->Rho->Prop}:Ev (ul m f ρ) Q=Ev (f ρ) (λl ρ1=>Tv (m l) (λc=>Q c ρ1)):=by unfold ul;simp only[uA,KD,ev_some]
theorem T9{c:Prop}[Decidable c]{x:Option (Res (α×Rho))}:Ev (if c then x else none) Q=(c/\Ev x Q):=by
 by_cases h:c
 ·rw[Zae h];exact propext ⟨λq=>⟨h,q⟩,λq=>q.2⟩
 ·rw[Zaf h];exact propext ⟨λ⟨_,_,e,_⟩=>(by cases e),λq=>absurd q.1 h⟩
theorem ev_tup{f:Fe (List PV)}{Q:PV->Rho->Prop}:Ev (Hq f ρ) Q=Ev (f ρ) (λl ρ1=>l.length<=sizeLine/\Q (.tup l) ρ1):=by unfold Hq;simp only[uA,T9,ev_some]
theorem ev_bl{f:Fe PV}{Q:Bool->Rho->Prop}:Ev (eBl f ρ) Q=Ev (f ρ) (λa ρ1=>∃ b,a=.bl b/\Q b ρ1):=by
 unfold eBl;rw[uA];congr 1;funext a ρ1
 refine propext ⟨?_,λ⟨b,e,q⟩=>by subst e;exact⟨_,_,rfl,q⟩⟩
 rintro⟨b,r,e,q⟩;cases a<;>cases e;exact⟨_,rfl,q⟩
theorem ev_io{m:List PV->Option (Res PV)}{f:Fn (List PV)}{Q:PV->Rho->Prop}:Ev (eIO i m f ρ) Q=∃ p,ρ[i]?=some (some (.ow p))/\Tv (f ρ) (λl=>∃ q p',m l=some (.ok (.tup [q,p']))/\Q q (ρ.set i (some (.ow p')))):=by
 refine propext ⟨?_,λ⟨p,e,l,e1,q,p',e2,z⟩=>⟨q,_,?_,z⟩⟩
 ·rintro⟨a,r,e,q⟩;unfold eIO at e;split at e
  ·rename_i p hp;refine⟨p,bc hp,?_⟩;rcases bx e with⟨z,_,e2⟩|⟨l,e1,e2⟩
   ·cases e2
   ·split at e2
    ·rename_i q1 p1 hm;cases e2;exact⟨l,e1,_,_,hm,q⟩
    ·cases e2
  ·cases e
 ·unfold eIO ownAt;rw[e,e1,Jz,e2]
theorem ev_tree{m:List PV->Option (Res PV)}{f:Fn (List PV)}{Q:PV->Rho->Prop}:Ev (vY i m f ρ) Q=∃ p,ρ[i]?=some (some (.dp p))/\Tv (f ρ) (λl=>∃ q p',m (p::l)=some (.ok (.tup [q,p']))/\Q q (ρ.set i (some (.dp p')))):=by
 refine propext ⟨?_,λ⟨p,e,l,e1,q,p',e2,z⟩=>⟨q,_,?_,z⟩⟩
 ·rintro⟨a,r,e,q⟩;unfold vY at e;split at e
  ·rename_i p hp;refine⟨p,cN hp,?_⟩;rcases bx e with⟨z,_,e2⟩|⟨l,e1,e2⟩
   ·cases e2
   ·split at e2
    ·rename_i q1 p1 hm;cases e2;exact⟨l,e1,_,_,hm,q⟩
    ·cases e2
  ·cases e
 ·unfold vY ir;rw[e];show bnd (f ρ) _=_
  rw[e1,Jz,e2]
theorem to_asgE{f:Fe PV}:To (CQ f (gN i) ρ) QS=Ev (f ρ) (λp ρ1=>QS (.nx (ρ1.set i (some (.sh p))))):=by unfold CQ gN;simp only[FJ,to_nx]
theorem to_retE{f:Fe PV}:To (Nk f ρ) QS=Ev (f ρ) (λp _=>QS (.rt p)):=by unfold Nk;simp only[FJ,to_rt]
theorem to_ifE{c:Fe Bool}:To (eIf c s t ρ) QS=Ev (c ρ) (λb ρ1=>if b=true then To (s ρ1) QS else To (t ρ1) QS):=by unfold eIf;simp only[FJ,to_ite]
theorem to_forE{f:Fe PV}{tg:PV->Rho->Option Rho}:To (zX f tg s ρ) QS=Ev (f ρ) (λp ρ1=>∃ j,p=.int j/\-(2^62)<=j/\j<2^62/\To (loop tg s (kZ 0 j.toNat) ρ1) QS):=by
 unfold zX;rw[FJ];congr 1;funext p ρ1
 refine propext ⟨?_,λ⟨j,e,h1,h2,q⟩=>by subst e;show To (if _ then _ else _) _;rw[Zae ⟨h1,h2⟩];exact q⟩
 rintro⟨o,e,c,q⟩;cases p with
 |int j=>
  have e:(if -(2^62)<=j/\j<2^62 then loop tg s (kZ 0 j.toNat) ρ1 else none)=some o:=e;split at e
  ·rename_i h;exact⟨j,rfl,h.1,h.2,o,e,c,q⟩
  ·cases e
 |_=>cases e
theorem to_appE{f:Fe PV}:To (CT i f ρ) QS=∃ l0,ρ[i]?=some (some (.ow (.lst l0)))/\Ev (f ρ) (λp ρ1=>∃ l,ρ1[i]?=some (some (.ow (.lst l)))/\l.length<sizeLine/\QS (.nx (ρ1.set i (some (.ow (.lst (l++[p]))))))):=by
 refine propext ⟨?_,λ⟨l0,e0,p,ρ1,e1,l,e2,h,q⟩=>⟨.nx _,?_,trivial,q⟩⟩
 ·rintro⟨o,e,c,q⟩;unfold CT at e;split at e
  ·rename_i l0 hl;refine⟨l0,bc hl,?_⟩;rcases jB e with⟨z,_,rfl⟩|⟨p,ρ1,e1,e2⟩
   ·exact c.elim
   ·split at e2
    ·rename_i l hl1;split at e2
     ·rename_i h;cases e2;exact⟨p,ρ1,e1,l,bc hl1,h,q⟩
     ·cases e2
    ·cases e2
  ·cases e
 ·unfold CT ownAt;rw[e0];show lM (f ρ) _=_
  rw[e1];show(match ownAt i ρ1 with|some (.lst l)=>_|_=>none)=_
  unfold ownAt;rw[e2];exact Zae h
theorem to_popE{g:Nat}{f:Fe PV}:To (Hr g i f ρ) QS=∃ l0,ρ[i]?=some (some (.ow (.lst l0)))/\Ev (f ρ) (λp ρ1=>∃ l k y,ρ1[i]?=some (some (.ow (.lst l)))/\p=.int k/\(0<=k/\k<2^62)/\l[k.toNat]?=some y/\QS (.nx ((ρ1.set i (some (.ow (.lst (l.eraseIdx k.toNat))))).set g (some (.sh y))))):=by
 refine propext ⟨?_,λ⟨l0,e0,p,ρ1,e1,l,k,y,e2,e3,h,hy,q⟩=>⟨.nx _,?_,trivial,q⟩⟩
 ·rintro⟨o,e,c,q⟩;unfold Hr at e;split at e
  ·rename_i l0 hl;refine⟨l0,bc hl,?_⟩;rcases jB e with⟨z,_,rfl⟩|⟨p,ρ1,e1,e2⟩
   ·exact c.elim
   ·split at e2
    ·rename_i l k hl1;split at e2
     ·rename_i h;split at e2
      ·rename_i y hy;cases e2;exact⟨_,ρ1,e1,l,k,y,bc hl1,rfl,h,hy,q⟩
      ·cases e2
     ·cases e2
    ·cases e2
  ·cases e
 ·subst e3;unfold Hr ownAt;rw[e0];show lM (f ρ) _=_
  rw[e1];show(match ownAt i ρ1,PV.int k with|some (.lst l),.int k=>_|_,_=>none)=_
  unfold ownAt;rw[e2];show(if _ then _ else _)=_
  rw[Zae h];show(match l[k.toNat]? with|some y=>_|none=>_)=_
  rw[hy]
theorem to_seqP:To (nA s t ρ) QS=To (s ρ) (uy (λρ'=>To (t ρ') QS) λ_=>False):=by
 unfold nA;refine propext ⟨?_,?_⟩
 ·rintro⟨o,e,c,q⟩;split at e
  ·rename_i ρ' h;exact⟨_,h,trivial,o,e,c,q⟩
  ·cases e
 ·rintro⟨o,e,c,q⟩;cases o with
  |nx ρ'=>rw[e];exact q
  |_=>exact q.elim
theorem to_retR{f:Fn PV}:To (Fi j f ρ) QS=Tv (f ρ) (λq=>∃ p,ρ[j]?=some (some (.ow p))/\QS (.rt (.tup [q,p]))):=by
 unfold Fi;rw[to_bnd];congr 1;funext q
 refine propext ⟨?_,λ⟨p,e,z⟩=>⟨.rt _,by unfold ownAt;rw[e],trivial,z⟩⟩
 rintro⟨o,e,c,z⟩;split at e
 ·rename_i p hp;cases e;exact⟨p,bc hp,z⟩
 ·cases e
theorem to_retW{f:Fn PV}:To (Fq f ρ) QS=Tv (f ρ) (λq=>∃ p,ρ[0]?=some (some (.dp p))/\QS (.rt (.tup [q,p]))):=by
 unfold Fq;rw[to_bnd];congr 1;funext q
 refine propext ⟨?_,λ⟨p,e,z⟩=>⟨.rt _,by unfold ir;rw[e],trivial,z⟩⟩
 rintro⟨o,e,c,z⟩;split at e
 ·rename_i p hp;cases e;exact⟨p,cN hp,z⟩
 ·cases e
theorem gq(h:To (s ρ) λo=>∃ ρ',o=.nx ρ'/\QS (.nx ρ')):To (g8 s ρ) QS:=by
 obtain⟨o,e,_,ρ',rfl,q⟩:=h;exact⟨.nx _,by unfold g8;rw[e],trivial,q⟩
theorem tv_fldO{cls g:Str}{f:Fn PV}{Q:PV->Prop}:Tv (lO cls g f ρ) Q=Tv (f ρ) (λp=>∃ c l q,p=.obj c l/\c=cls/\l.lookup g=some q/\Q q):=by
 unfold lO;rw[tv_bnd];congr 1;funext p
 refine propext ⟨?_,λ⟨c,l,q,e,e1,e2,z⟩=>⟨q,by subst e e1;show(if _ then _ else _)=_;rw[Zae rfl,e2];rfl,z⟩⟩
 rintro⟨r,e,z⟩;cases p with
 |obj c l=>
  have e:(if c=cls then(l.lookup g).map Res.ok else none)=some (.ok r):=e;split at e
  ·rename_i hc;obtain⟨q,hq,e⟩:=ZaX.mp e;cases e;exact⟨c,l,r,rfl,hc,hq,z⟩
  ·cases e
 |_=>cases e
theorem tv_callM{cls mn:Str}{m:List PV->Option (Res PV)}{fa:Fn PV}{fs:Fn (List PV)}{Q:PV->Prop}:Tv (De (oE cls mn m fa fs) ρ) Q=Tv (fa ρ) (λp=>∃ c l,p=.obj c l/\(c=cls/\l.lookup mn=none)/\Tv (fs ρ) (λxs=>Tv (m (.obj c l::xs)) Q)):=by
 have ok:Tv (De (oE cls mn m fa fs) ρ) Q=Tv (oE cls mn m fa fs ρ) Q:=by
  refine propext ⟨?_,λ⟨r,e,z⟩=>⟨r,by unfold De;rw[e],z⟩⟩
  rintro⟨r,e,z⟩;unfold De at e;split at e
  ·rename_i p hp;cases e;exact⟨_,hp,z⟩
  ·cases e
 rw[ok];unfold oE;rw[tv_bnd];congr 1;funext p
 refine propext ⟨?_,λ⟨c,l,e,e1,z⟩=>by subst e;show Tv (if _ then _ else _) _;rw[Zae e1,tv_bnd];exact z⟩
 rintro⟨r,e,z⟩;cases p with
 |obj c l=>
  have e:(if c=cls/\l.lookup mn=none then bnd (fs ρ) λxs=>m (.obj c l::xs) else none)=some (.ok r):=e;split at e
  ·rename_i hc;refine⟨c,l,rfl,hc,?_⟩;rw[<-tv_bnd];exact⟨r,e,z⟩
  ·cases e
 |_=>cases e
theorem to_par{f:Fn (List PV)}:To (HB i j f ρ) QS=Tv (f ρ) (λl=>∃ p q,l=[p,q]/\QS (.nx ((ρ.set i (some (.sh p))).set j (some (.sh q))))):=by
 unfold HB;rw[to_bnd];congr 1;funext l
 refine propext ⟨?_,λ⟨p,q,e,z⟩=>by subst e;exact⟨.nx _,rfl,trivial,z⟩⟩
 rintro⟨o,e,c,z⟩
 match l,e with
 |[p,q],e=>cases e;exact⟨p,q,rfl,z⟩
theorem tv_chain3{o1 o2 o3:PV->PV->Option (Res PV)}{f g h k:Fn PV}{Q:PV->Prop}:Tv (rW o1 o2 o3 f g h k ρ) Q=Tv (f ρ) (λa=>Tv (g ρ) (λb=>Tv (o1 a b) (λz=>∃ t,z=.bl t/\if t=true then Tv (h ρ) (λc=>Tv (o2 b c) (λz2=>∃ t2,z2=.bl t2/\if t2=true then Tv (k ρ) (λd=>Tv (o3 c d) Q) else Q (.bl false))) else Q (.bl false)))):=by
 have yes:∀ {A B:Prop},(A↔B)->(A=B):=λh=>propext h;unfold rW;rw[tv_bnd];congr 1;funext a;rw[tv_bnd];congr 1;funext b;rw[tv_bnd];congr 1;funext z;cases z with
 |bl t=>
  cases t with
  |false=>exact yes ⟨λ⟨r,e,q⟩=>by cases e;exact⟨false,rfl,q⟩,λ⟨t,e,q⟩=>by cases e;exact⟨_,rfl,q⟩⟩
  |true=>
   have e:Tv (bnd (h ρ) λc=>bnd (o2 b c) λz2=>match z2 with|.bl true=>bnd (k ρ) λd=>o3 c d|.bl false=>some (.ok (.bl false))|_=>none) Q=Tv (h ρ) (λc=>Tv (o2 b c) (λz2=>∃ t2,z2=.bl t2/\if t2=true then Tv (k ρ) (λd=>Tv (o3 c d) Q) else Q (.bl false))):=by
    rw[tv_bnd];congr 1;funext c;rw[tv_bnd];congr 1;funext z2;cases z2 with
    |bl t2=>
     cases t2 with
     |false=>exact yes ⟨λ⟨r,e,q⟩=>by cases e;exact⟨false,rfl,q⟩,λ⟨t,e,q⟩=>by cases e;exact⟨_,rfl,q⟩⟩
     |true=>exact yes ⟨λq=>⟨true,rfl,by rw[Zae rfl,<-tv_bnd];exact q⟩,λ⟨t,e,q⟩=>by cases e;rw[Zae rfl,<-tv_bnd] at q;exact q⟩
    |_=>exact yes ⟨λ⟨_,e,_⟩=>(by cases e),λ⟨_,e,_⟩=>(by cases e)⟩
   exact yes ⟨λq=>⟨true,rfl,by rw[Zae rfl,<-e];exact q⟩,λ⟨t,e1,q⟩=>by cases e1;rw[Zae rfl,<-e] at q;exact q⟩
 |_=>exact yes ⟨λ⟨_,e,_⟩=>(by cases e),λ⟨_,e,_⟩=>(by cases e)⟩
end
def fX:Str->Option Bool:=λc=>if c="NoName" then some true else if c="Twice" then some true else if c="NoStroke" then some true else none
def jk:Str->Option Bool:=λc=>if c="NoName" then some true else if c="Twice" then some true else if c="NoStroke" then some true else none
def qe:Str->Option Bool:=λc=>if c="NoName" then some true else if c="Twice" then some false else if c="NoStroke" then some false else none
def lV:Str->Option Bool:=λc=>if c="NoName" then some false else if c="Twice" then some false else if c="NoStroke" then some true else none
def uB:Str->Option Bool:=λc=>if c="NoName" then some false else if c="Twice" then some false else if c="NoStroke" then some false else none
def uC:Str->Option Bool:=λc=>if c="NoName" then some false else if c="Twice" then some true else if c="NoStroke" then some false else none
def uD:Str->Option Bool:=λc=>if c="NoName" then some false else if c="Twice" then some false else if c="NoStroke" then some false else none
def jm:Str->Option Bool:=λc=>if c="NoName" then some true else if c="Twice" then some true else if c="NoStroke" then some true else none
def qg:Str->Bool:=λc=>([]:List Str).contains c
def Dg:Str->Bool:=λc=>([]:List Str).contains c
def lW:Sn:=
 (eF (mC (.bl false)))
def qQ:Sn:=
 (eF (m1 tX (lF (pq (m1 lD (mV 0)) [none] (gN 0) rC (m2 Hf (mVL 0) (mC (.str "abcdefghijklmnopqrstuvwxyz")))))))
def m9:Sn:=
 (bA (gf (mOr (rB (m1 fj (m2 xr (mVL 0) (mC (.ty "str"))))) (rB (m1 fj (pX tK tK (mC (.int 1)) (m1 pB (mVL 0)) (mC (.int (8)))))))
    lW
    dw)
   qQ)
def gM:List PV->Option (Res PV)
 |[a0]=>fin (m9 (startR [a0] 0))
 |_=>none
def cQ:Sn:=
 (eF (oX (m2 xr (mVL 0) (mC (.ty "int"))) (m1 JC (m2 xr (mVL 0) (mC (.ty "bool"))))))
def cR:List PV->Option (Res PV)
 |[a0]=>fin (cQ (startR [a0] 0))
 |_=>none
def oF:Sn:=
 (eF (m2 dh (m2 qM (m2 bW (mV 1) (mC (.int 1))) (m2 bW (mV 0) (mC (.int 0)))) (m2 bW (mV 1) (mC (.int 0)))))
def j5:List PV->Option (Res PV)
 |[a0,a1]=>fin (oF (startR [a0,a1] 0))
 |_=>none
def pH:Sn:=
 (eF (m2 vP (m2 tH (mC (.int 1)) (m2 qM (m2 bW (mV 0) (mC (.int 0))) (m2 bW (mV 0) (mC (.int 1))))) (mC (.int 1))))
def pI:List PV->Option (Res PV)
 |[a0]=>fin (pH (startR [a0] 0))
 |_=>none
def uE:Sn:=
 (cP (m2 Hd (mV 2) (m2 tH (mC (.int 1)) (cC j5 (aA (mV 0) (aA (mV 3) bu))))) (gN 2))
def uF:Sn:=
 (eF (mV 2))
def uG:Sn:=
 (bA (cP (mC (.int 0)) (gN 2))
   (bA (wY (m1 lD (mV 1)) (gN 3)
    uE)
   uF))
def pJ:List PV->Option (Res PV)
 |[a0,a1]=>fin (uG (startR [a0,a1] 2))
 |_=>none
def jn:Sn:=
 (eF (mC (.bl false)))
def jo:Sn:=
 (eF (mC (.bl false)))
def jq:Sn:=
 (eF (oX (m1 tX (lF (pq (m1 lD (Cm (mV 0) (m1 asInt (mC (.int 1))) mPn)) [none] (gN 0) rC (cC cR (aA (mV 0) bu))))) (m2 tK (m2 bW (mV 0) (mC (.int 2))) (m2 bW (mV 0) (mC (.int 3))))))
def dX:Sn:=
 (bA (gf (mOr (rB (m1 fj (m2 xr (m2 bW (mV 0) (mC (.int 0))) (mC (.ty "str"))))) (m1 fj (m2 mR (m2 bW (mV 0) (mC (.int 0))) (kW (aA (mC (.str "row")) (aA (mC (.str "column")) bu))))))
    jo
    dw)
   jq)
def bI:Sn:=
 (bA (gf (mOr (rB (m1 fj (m2 xr (mVL 0) (mC (.ty "tuple"))))) (m1 fj (m2 vd (m1 pB (mVL 0)) (mC (.int 4)))))
    jn
    dw)
   dX)
def eQ:List PV->Option (Res PV)
 |[a0]=>fin (bI (startR [a0] 0))
 |_=>none
def j6:Sn:=
 (eF (mIf (m1 fj (m2 kY (mVL 1) (mC (.str "row")))) (m2 bW (mV 0) (mC (.int 1))) (m2 bW (mV 0) (mC (.int 0)))))
def j7:List PV->Option (Res PV)
 |[a0,a1]=>fin (j6 (startR [a0,a1] 0))
 |_=>none
def iH:Sn:=
 (eF (mIf (m1 fj (m2 kY (mVL 1) (mC (.str "row")))) (m2 bW (mV 0) (mC (.int 0))) (m2 bW (mV 0) (mC (.int 1)))))
def iI:List PV->Option (Res PV)
 |[a0,a1]=>fin (iH (startR [a0,a1] 0))
 |_=>none
def qR:Sn:=
 (eF (mC (.bl false)))
def qT:Sn:=
 (eF (oX (pX tK xf (mC (.int 0)) (m2 bW (mV 1) (mC (.int 1))) (cC j7 (aA (mV 0) (aA (m2 bW (mV 1) (mC (.int 0))) bu)))) (oX (m2 tK (mC (.int 0)) (m2 bW (mV 1) (mC (.int 2)))) (m2 xf (m2 bW (mV 1) (mC (.int 3))) (cC iI (aA (mV 0) (aA (m2 bW (mV 1) (mC (.int 0))) bu)))))))
def gO:Sn:=
 (bA (gf (rB (m1 fj (cC eQ (aA (mV 1) bu))))
    qR
    dw)
   qT)
def fU:List PV->Option (Res PV)
 |[a0,a1]=>fin (gO (startR [a0,a1] 0))
 |_=>none
def jE:Sn:=
 (tG (pq (m1 tR (aA (m2 bW (mV 0) (mC (.int 2))) (aA (m2 dh (m2 bW (mV 0) (mC (.int 3))) (mC (.int 1))) bu))) [none,some 0] (gN 0) rC (kW (aA (mV 0) (aA (m2 bW (mV 1) (mC (.int 1))) bu)))))
def jF:Sn:=
 (tG (pq (m1 tR (aA (m2 bW (mV 0) (mC (.int 2))) (aA (m2 dh (m2 bW (mV 0) (mC (.int 3))) (mC (.int 1))) bu))) [none,some 0] (gN 0) rC (kW (aA (m2 bW (mV 1) (mC (.int 1))) (aA (mV 0) bu)))))
def fB:Sn:=
 (bA (gf (m1 fj (m2 kY (m2 bW (mV 0) (mC (.int 0))) (mC (.str "row"))))
    jE
    dw)
   jF)
def fC:List PV->Option (Res PV)
 |[a0]=>zz (fB (startR [a0] 0))
 |_=>none
def iJ:Sn:=
 (eF (cC pJ (aA (mV 0) (aA (cC fC (aA (mV 1) bu)) bu))))
def iK:List PV->Option (Res PV)
 |[a0,a1]=>fin (iJ (startR [a0,a1] 0))
 |_=>none
def vh:Sn:=
 (m5 "NoName")
def vm:Sn:=
 (m5 "Twice")
def nC:Sn:=
 (gf (m1 fj (m2 zF (mV 1) (iD 0)))
    vm
    dw)
def iM:Sn:=
 (bA (gf (rB (m1 fj (cC gM (aA (mV 1) bu))))
    vh
    dw)
   nC)
def iQ:List PV->Option (Res PV)
 |[a0,a1]=>fin (iM (startR [a0,a1] 0))
 |_=>none
def rD:Sn:=
 (m5 "NoName")
def dq:Sn:=
 (gf (mOr (rB (m1 fj (cC gM (aA (mV 1) bu)))) (m1 fj (m2 lJ (mV 1) (iD 0))))
    rD
    dw)
def cU:List PV->Option (Res PV)
 |[a0,a1]=>fin (dq (startR [a0,a1] 0))
 |_=>none
def dZ:Sn:=
 (bA (g8 (gG "Shop" 0 "bench" (kW (aA (t8 (m2 bW (mV 1) (mC (.int 0)))) (aA (zM (m1 xu (lF (m2 bW (mV 1) (mC (.int 1)))))) bu)))))
   (bA (g8 (gG "Shop" 0 "size" (t8 (mV 2))))
   (bA (g8 (gG "Shop" 0 "states" (zM (m1 xu (jU 3)))))
   (bA (g8 (gG "Shop" 0 "woods" (Ka zB)))
   (g8 (gG "Shop" 0 "prints" (Ka zB)))))))
def dm:List PV->Option (Res PV)
 |[a0,a1,a2,a3]=>RC (dZ (lQ a0 [a1,a2,a3] 0))
 |_=>none
def lX:Sn:=
 (g8 (uw "Shop" 0 "woods" (mFz 0 (cC pI (aA (lO "Shop" "size" (mV 0)) bu))) (mV 1)))
def gH(p0:PV):Sn:=
 (lU (oY (cC iQ (aA (lO "Shop" "woods" (mV 0)) (aA (mV 1) bu))))
   (Ku p0 lX))
def fD:List PV->Option (Res PV)
 |[a0,a1]=>Kv (gH a0 (startR [a0,a1] 0))
 |_=>none
def xU:Sn:=
 (m5 "NoStroke")
def pK:Sn:=
 (g8 (uw "Shop" 0 "woods" (mFz 0 (m2 zp (m2 jW (t6 (lO "Shop" "woods" (mV 0))) (mV 1)) (m1 J6 (cC iK (aA (lO "Shop" "size" (mV 0)) (aA (mV 2) bu)))))) (mV 1)))
def dI(p0:PV):Sn:=
 (lU (oY (cC cU (aA (lO "Shop" "woods" (mV 0)) (aA (mV 1) bu))))
   (lU (gf (rB (m1 fj (cC fU (aA (lO "Shop" "size" (mV 0)) (aA (mV 2) bu)))))
    xU
    dw)
   (Ku p0 pK)))
def cD:List PV->Option (Res PV)
 |[a0,a1,a2]=>Kv (dI a0 (startR [a0,a1,a2] 0))
 |_=>none
def iR:Sn:=
 (bA (oY (cC cU (aA (lO "Shop" "woods" (mV 0)) (aA (mV 1) bu))))
   (eF (m2 jW (t6 (lO "Shop" "woods" (mV 0))) (mV 1))))
def gr:List PV->Option (Res PV)
 |[a0,a1]=>fin (iR (startR [a0,a1] 0))
 |_=>none
def nF:Sn:=
 (cP (m2 bW (mV 0) (mV 1)) (gN 2))
def nG:Sn:=
 (tG (jz (aA (m2 fL (mV 2) (m2 zm (mC (.int 10)) (mC (.int 60)))) bu)))
def nH:Sn:=
 (bA (cP (m2 fL (m2 dh (m2 jX (mV 3) (mC (.int 69621))) (m2 jX (mC (.int 7919)) (mV 5))) (mC (.int 2147483629))) (gN 3))
    (bA (cP (m2 fL (m2 jX (mV 3) (mV 3)) (mC (.int 2147483587))) (gN 3))
    (cP (m2 dh (m2 jX (mV 4) (mC (.int 2147483629))) (mV 3)) (gN 4))))
def nJ:Sn:=
 (tG (jz (aA (mV 4) bu)))
def nM:Sn:=
 (bA (cP (m2 dh (m2 dh (m2 fL (mV 2) (mC (.int 2147483647))) (m2 jX (m2 jX (mC (.int 48271)) (mV 1)) (mV 1))) (mC (.int 11))) (gN 3))
   (bA (cP (mC (.int 0)) (gN 4))
   (bA (wY (m1 xn (aA (mC (.int 7)) bu)) (gN 5)
    nH)
   nJ)))
def jr:Sn:=
 (bA (gf (m1 fj (m2 Mx (mV 2) (m2 zm (mC (.int 10)) (mC (.int 18)))))
    nG
    dw)
   nM)
def iT:Sn:=
 (bA (cP (mC (.int 0)) (gN 2))
   (bA (gf (m1 fj (m2 xf (mV 1) (m1 pB (mVL 0))))
    nF
    dw)
   jr))
def eU:List PV->Option (Res PV)
 |[a0,a1]=>zz (iT (startR [a0,a1] 4))
 |_=>none
def iU:Sn:=
 (nA (cP (m2 fL (m2 vQ (jU 0) (mC (.int 0))) (mV 1)) (gN 2))
   (nA (Mu 0 (m2 lC (m2 vQ (jU 0) (mC (.int 0))) (mV 1)) (mC (.int 0)))
   (Fi 0 (mV 2))))
def bB:List PV->Option (Res PV)
 |[a0,a1]=>fin (iU (cA 0 [a0,a1] 1))
 |_=>none
def iV:Sn:=
 (eF (m2 dh (m2 dh (JQ (mC (.str "mmmm")) mPn (m1 asInt (mV 0))) (m2 bW (mC (.str "kxadzqbfwcgjyehtvn")) (mV 1))) (JQ (mC (.str "mmm")) (m1 asInt (mV 0)) mPn)))
def cZ:List PV->Option (Res PV)
 |[a0,a1]=>fin (iV (startR [a0,a1] 0))
 |_=>none
def lY:Sn:=
 (CT 4 (Hq (gj (eP (mC (.str "cover"))) (gj (eP (mV 6)) (gj (ul cZ (gj (eP (mV 1)) (gj (eIO 0 bB (eG 0 (aA (mC (.int 6)) bu))) xO))) xO)))))
def lZ:Sn:=
 (bA (Hr 10 7 (eIO 0 bB (eG 0 (aA (m1 pB (mVL 7)) bu))))
      (CT 8 (Hq (gj (eP (cC cZ (aA (mV 1) (aA (mV 10) bu)))) (gj (ul cZ (gj (eP (mV 1)) (gj (eIO 0 bB (eG 0 (aA (mC (.int 6)) bu))) xO))) xO)))))
def mj:Sn:=
 (GX 4 (kW (aA (mC (.str "glaze")) (aA (mV 6) (aA (m1 JZ (jU 8)) bu)))))
def mq:Sn:=
 (bA (tE 7 (m1 (J5 .lst) (mC (.int 6))))
     (bA (tE 8 (jz bu))
     (bA (zX (e2 dh (eP (mC (.int 1))) (eIO 0 bB (eG 0 (aA (mC (.int 3)) bu)))) (gN 9)
      lZ)
     mj)))
def my:Sn:=
 (bA (cP (cC cZ (aA (m2 fL (m2 dh (mV 1) (mC (.int 1))) (mC (.int 4))) (aA (m2 fL (m2 dh (m2 qM (mC (.int 7)) (mV 5)) (mV 3)) (mC (.int 18))) bu))) (gN 6))
    (eIf (eBl (e2 xf (eIO 0 bB (eG 0 (aA (mC (.int 3)) bu))) (eP (mC (.int 2)))))
     lY
     mq))
def mz:Sn:=
 (Tp 4 (eF (kW (aA (mV 2) (aA (mV 4) bu)))))
def gJ:Sn:=
 (bA (CQ (eIO 0 bB (eG 0 (aA (mC (.int 4)) bu))) (gN 1))
   (bA (CQ (ul cZ (gj (eP (mV 1)) (gj (eIO 0 bB (eG 0 (aA (mC (.int 6)) bu))) xO))) (gN 2))
   (bA (CQ (eIO 0 bB (eG 0 (aA (mC (.int 18)) bu))) (gN 3))
   (bA (tE 4 (jz bu))
   (bA (zX (e2 dh (eP (mC (.int 2))) (eIO 0 bB (eG 0 (aA (mC (.int 3)) bu)))) (gN 5)
    my)
   mz)))))
def fG:List PV->Option (Res PV)
 |[a0]=>fin (gJ (cA 0 [a0] 10))
 |_=>none
def iW:Sn:=
 (bA (CQ (e2 dh (eP (mC (.int 1))) (eIO 0 bB (eG 0 (aA (mC (.int 4)) bu)))) (gN 1))
   (Nk (Hq (gj (eP (mV 1)) (gj (e2 dh (eP (mC (.int 1))) (eIO 0 bB (eG 0 (aA (mC (.int 4)) bu)))) xO)))))
def iY:List PV->Option (Res PV)
 |[a0]=>fin (iW (cA 0 [a0] 1))
 |_=>none
def nO:Sn:=
 (HB 4 5 (aA (m2 bW (mV 1) (mC (.int 1))) (aA (mV 3) bu)))
def jt:Sn:=
 (cP (m2 Hd (mV 2) (m2 tH (mC (.int 1)) (m2 dh (m2 qM (mV 5) (m2 bW (mV 0) (mC (.int 0)))) (mV 4)))) (gN 2))
def nQ:Sn:=
 (bA (HB 4 5 (aA (mV 3) (aA (m2 bW (mV 1) (mC (.int 1))) bu)))
    (bA (gf (m1 fj (m2 kY (m2 bW (mV 1) (mC (.int 0))) (mC (.str "column"))))
     nO
     dw)
    jt))
def nR:Sn:=
 (eF (mV 2))
def iZ:Sn:=
 (bA (cP (mC (.int 0)) (gN 2))
   (bA (wY (m1 tR (aA (m2 bW (mV 1) (mC (.int 2))) (aA (m2 dh (m2 bW (mV 1) (mC (.int 3))) (mC (.int 1))) bu))) (gN 3)
    nQ)
   nR))
def jb:List PV->Option (Res PV)
 |[a0,a1]=>fin (iZ (startR [a0,a1] 4))
 |_=>none
def nU:Sn:=
 (cP (m2 Hd (mV 1) (m2 tH (mC (.int 1)) (mV 2))) (gN 1))
def nW:Sn:=
 (eF (mV 1))
def jc:Sn:=
 (bA (cP (mC (.int 0)) (gN 1))
   (bA (wY (m1 xn (aA (m2 qM (m2 bW (mV 0) (mC (.int 0))) (m2 bW (mV 0) (mC (.int 1)))) bu)) (gN 2)
    nU)
   nW))
def gw:List PV->Option (Res PV)
 |[a0]=>fin (jc (startR [a0] 2))
 |_=>none
def vo:Sn:=
 (eF (jz (aA (mC (.str "wrong")) (aA (zT qg "column" (mV 0)) (aA (zT Dg "row" (mV 0)) bu)))))
def vp:Sn:=
 (bA (cP (jz (aA (vg qe false (mVL 0)) (aA (vg uC false (mVL 0)) (aA (vg uB false (mVL 0)) (aA (vg lV false (mVL 0)) bu))))) (gN 1))
   (eF (m2 tQ (lF (jz (aA (oX (vg jk false (mVL 0)) (vg jm false (mVL 0))) bu))) (jU 1))))
def qU:Sn:=
 (bA (gf (m1 fj (vg uD false (mVL 0)))
    vo
    dw)
   vp)
def dJ:List PV->Option (Res PV)
 |[a0]=>fin (qU (startR [a0] 1))
 |_=>none
def xV:Sn:=
 (eF (jz (aA (mC (.bl false)) (aA (mC (.bl false)) (aA (mC (.bl false)) (aA (mC (.bl false)) (aA (mC (.bl false)) bu)))))))
def xW:Sn:=
 (eF (m2 tQ (lF (jz (aA (mC (.bl true)) bu))) (lF (pq (m1 lD (jz (aA (mC (.str "NoName")) (aA (mC (.str "Twice")) (aA (mC (.str "Order")) (aA (mC (.str "NoStroke")) bu)))))) [none,some 0] (gN 0) rC (m2 kY (mVL 1) (mVL 0))))))
def uH:Sn:=
 (bA (gf (m1 fj (m2 kY (mVL 0) (mC (.str ""))))
    xV
    dw)
   xW)
def eO:List PV->Option (Res PV)
 |[a0]=>fin (uH (startR [a0] 0))
 |_=>none
def mD:Sn:=
 (cP (mV 4) (gN 3))
def dN:Sn:=
 (nA (cP (mC .non) (gN 3))
   (nA (ur (uq "Shop" "cut" 0 cD (aA (mV 1) (aA (mV 2) bu)))
    (Nh fX 4 mD PB))
   (Fq (mV 3))))
def dO:List PV->Option (Res PV)
 |[a0,a1,a2]=>Km (dN (lQ a0 [a1,a2] 2))
 |_=>none
def nY:Sn:=
 (HB 2 3 (aA (m2 bW (mV 0) (mC (.int 1))) (aA (m2 bW (mV 0) (mC (.int 0))) bu)))
def ju:Sn:=
 (eF (oX (pX tK xf (mC (.int 0)) (m2 bW (mV 1) (mC (.int 1))) (mV 3)) (rW tK tK xf (mC (.int 0)) (m2 bW (mV 1) (mC (.int 2))) (m2 bW (mV 1) (mC (.int 3))) (mV 2))))
def jd:Sn:=
 (bA (cP (m2 bW (mV 0) (mC (.int 0))) (gN 2))
   (bA (cP (m2 bW (mV 0) (mC (.int 1))) (gN 3))
   (bA (gf (m1 fj (m2 kY (m2 bW (mV 1) (mC (.int 0))) (mC (.str "column"))))
    nY
    dw)
   ju)))
def je:List PV->Option (Res PV)
 |[a0,a1]=>fin (jd (startR [a0,a1] 2))
 |_=>none
def j8:Sn:=
 (bA (cP (jz (aA (mC .non) (aA (mC (.str "row")) (aA (m1 xx (mV 1)) (aA (Cm (mV 1) mPn (m1 asInt (mC (.int 3)))) (aA (m2 dh (mV 1) (kW (aA (mC (.int 0)) bu))) (aA (m2 dh (kW (aA (mC (.str "rows")) bu)) (Cm (mV 1) (m1 asInt (mC (.int 1))) mPn)) (aA (m2 dh (kW (aA (mC (.bl true)) bu)) (Cm (mV 1) (m1 asInt (mC (.int 1))) mPn)) bu)))))))) (gN 2))
   (bA (cP (m2 tQ (jU 2) (lF (jz (aA (kW (aA (m2 bW (mV 1) (mC (.int 0))) (aA (mC (.bl true)) (aA (mC (.int 0)) (aA (mC (.int 0)) bu))))) (aA (kW (aA (m2 bW (mV 1) (mC (.int 0))) (aA (mC (.int 0)) (aA (mC (.bl false)) (aA (mC (.int 0)) bu))))) bu))))) (gN 2))
   (bA (cP (m2 tQ (jU 2) (lF (jz (aA (kW (aA (m2 bW (mV 1) (mC (.int 0))) (aA (m2 bW (mV 1) (mC (.int 1))) (aA (mC (.str "0")) (aA (m2 bW (mV 1) (mC (.int 3))) bu))))) (aA (kW (aA (m2 bW (mV 1) (mC (.int 0))) (aA (mC .non) (aA (mC (.int 0)) (aA (mC (.int 0)) bu))))) (aA (mC (.int 7)) bu)))))) (gN 2))
   (eF (m2 bW (mV 2) (m2 fL (mV 0) (mC (.int 12))))))))
def j9:List PV->Option (Res PV)
 |[a0,a1]=>fin (j8 (startR [a0,a1] 1))
 |_=>none
def xX:Sn:=
 (bA (g8 (uo "Shop" "block" 3 fD (aA (mV 6) bu)))
    (zG 5 (cC gw (aA (mV 2) bu)) (mV 6)))
def FN:Sn:=
 (bA (cP (cC j9 (aA (m2 lC (mV 8) (mC (.int 56))) (aA (mV 11) bu))) (gN 12))
     (cP (mC (.bl false)) (gN 13)))
def xY:Sn:=
 (cP (mC (.str "NoStroke")) (gN 14))
def FP:Sn:=
 (cP (mC (.str "NoName")) (gN 14))
def Ob:Sn:=
 (eF (mC (.bl false)))
def FQ:Sn:=
 (zG 5 (m2 zp (m2 jW (iD 5) (mV 6)) (m2 Em (cC gw (aA (mV 2) bu)) (cC jb (aA (mV 2) (aA (mV 11) bu))))) (mV 6))
def Oc:Sn:=
 (eF (mC (.bl false)))
def FT:Sn:=
 (gf (Hl 3 (m1 fj (m2 vd (De (oE "Shop" "wood" gr (mV 3) (aA (mV 15) bu))) (m2 jW (iD 5) (mV 15)))))
      Oc
      dw)
def xZ:Sn:=
 (wY (m1 lD (mV 4)) (gN 15)
     FT)
def mF:Sn:=
 (bA (gf (m1 fj (m2 kY (mVL 14) (mC (.str ""))))
     FQ
     dw)
    xZ)
def uI:Sn:=
 (bA (eIf (eBl (e2 vd (ul dJ (gj (vY 3 dO (aA (mV 6) (aA (mV 12) bu))) xO)) (eP (cC eO (aA (mV 14) bu)))))
     Ob
     dw)
    mF)
def mG:Sn:=
 (bA (gf (m1 fj (m2 kY (mVL 6) (mC (.str "four"))))
     FP
     dw)
    uI)
def uJ:Sn:=
 (bA (cP (mC (.str "")) (gN 14))
    (bA (gf (rB (m1 fj (mV 13)))
     xY
     dw)
    mG))
def uK:Sn:=
 (bA (cP (m2 vQ (lF (jz (aA (mC (.str "one")) (aA (mC (.str "two")) (aA (mC (.str "three")) (aA (mC (.str "four")) bu)))))) (m2 fL (mV 7) (mC (.int 4)))) (gN 6))
    (bA (cP (m2 lC (mV 7) (mC (.int 4))) (gN 8))
    (bA (cP (m2 vP (m2 fL (m2 lC (mV 8) (mC (.int 10))) (mC (.int 6))) (mC (.int 1))) (gN 9))
    (bA (cP (m2 vP (m2 fL (m2 lC (mV 8) (mC (.int 2))) (mC (.int 5))) (m1 Es (m2 kY (m2 fL (m2 lC (mV 8) (mC (.int 60))) (mC (.int 9))) (mC (.int 1))))) (gN 10))
    (bA (cP (kW (aA (m2 vQ (lF (jz (aA (mC (.str "row")) (aA (mC (.str "column")) bu)))) (m2 fL (mV 8) (mC (.int 2)))) (aA (mV 10) (aA (mV 9) (aA (m2 dh (mV 9) (m2 fL (m2 lC (mV 8) (mC (.int 300))) (mC (.int 3)))) bu))))) (gN 11))
    (bA (cP (mV 11) (gN 12))
    (bA (cP (cC je (aA (mV 2) (aA (mV 11) bu))) (gN 13))
    (bA (gf (m1 fj (m2 kY (m2 fL (m2 lC (mV 8) (mC (.int 7))) (mC (.int 8))) (mC (.int 5))))
     FN
     dw)
    uJ))))))))
def Af:Sn:=
 (eF (mC (.bl true)))
def uL:Sn:=
 (bA (wY (m1 lD (Mz (jU 0) (m1 asInt (mC (.int 2))) (m1 asInt (mC (.int 62))))) (gN 7)
    uK)
   Af)
def FW:Sn:=
 (bA (cP (zY fG (cC eU (aA (mV 0) (aA (mC (.int 0)) bu))) bu) (gN 1))
   (bA (cP (zY iY (cC eU (aA (mV 0) (aA (mC (.int 1)) bu))) bu) (gN 2))
   (bA (EY 3 (Ft "Shop" dm (aA (mV 1) (aA (mV 2) (aA (Rc (jz (aA (mC (.int 0)) bu)) (m1 pB (m2 bW (mV 1) (mC (.int 1))))) bu)))))
   (bA (cP (jz (aA (mC (.str "one")) (aA (mC (.str "two")) (aA (mC (.str "three")) bu)))) (gN 4))
   (bA (tE 5 zB)
   (bA (wY (m1 lD (mV 4)) (gN 6)
    xX)
   uL))))))
def wg:List PV->Option (Res PV)
 |[a0]=>fin (FW (startR [a0] 15))
 |_=>none
local macro_rules|`(tactic| walk_at "rd")=>do
 let ids:=("onNx_nx onNx_rt onNx_ro onNx_rd onNx_bk onNx_ct tv_some to_nx to_rt to_ro to_rd to_bk to_ct tv_ite to_ite turn_nx turn_ct turn_bk turn_rt turn_ro turn_rd tv_bnd to_bnd to_seq tv_m2 tv_m1 tv_var tv_lend tv_c tv_view tv_viewN tv_asLst tv_nil tv_cons tv_tup tv_lst tv_call tv_mIf tv_mOr tv_mNot tv_and tv_chain tv_comp tv_compN tv_compC tv_yes to_next to_ret to_retO to_drop holdQ_nx holdQ_rt holdQ_ro to_setO to_setD tv_deep tv_still tv_fz tv_fzT to_asgN to_asg to_if to_for to_app to_put to_frz tv_consO tv_newD tv_viewD tv_viewDN tv_opDGet tv_opDIn tv_opDNotIn tv_ofR tv_inv tv_mulL to_dput dF_int dF_str dF_tup isD_dk isD_dt is_dk_int is_dk_str tv_xor finIO_nx tv_isX nn_non nn_int nn_str nn_bl nn_tup nn_lst nn_exc tv_fldX to_gone goneQ_nx goneQ_bk goneQ_ct goneQ_rt goneQ_ro tv_sub tv_and' tv_or' tv_ge tv_div tv_mod tv_pow tv_shl tv_add tv_addS tv_addT tv_mul tv_mulS tv_lt tv_ltS tv_le tv_leS tv_eqI tv_eqS tv_neI tv_neS tv_eq tv_ne tv_in tv_notin tv_ixL tv_ixT tv_ixV tv_ixS tv_lenS tv_lenL tv_lenT tv_is tv_asBl tv_not tv_intI tv_intB tv_list tv_listT tv_opTup tv_cat tv_asSeqL tv_asSeqT tv_asSeqS tv_rng1 tv_rng2 tv_pn tv_asInt tv_slL tv_slS tv_slT tv_opSlS tv_opSlT tv_opRep tv_rep tv_all ev_some ev_p ev_2 ev_nil ev_cons ev_call ev_tup ev_bl ev_io ev_tree to_asgE to_retE to_ifE to_forE to_appE to_popE to_seqP to_retR to_retW tv_fldO tv_callM to_par tv_chain3 startR fin_nx fin_rt finO_ro finT_rd gN gT gsCons gsNil szP cellP List.map_cons List.map_nil List.replicate_succ List.replicate_zero List.cons_append List.nil_append List.append_nil List.getElem?_cons_zero List.getElem?_cons_succ List.set_cons_zero List.set_cons_succ List.length_cons List.length_nil Nat.zero_le true_and and_true Option.some.injEq Sl.sh.injEq Sl.ow.injEq Sl.dp.injEq Res.ok.injEq PV.int.injEq PV.str.injEq PV.bl.injEq PV.lst.injEq PV.tup.injEq exists_eq_left' exists_eq_left exists_eq and_assoc exists_and_left if_true if_false not_true_eq_false not_false_eq_true Bool.false_eq_true Bool.not_true Bool.not_false decide_eq_true_eq Bool.not_eq_true' decide_eq_false_iff_not reduceCtorEq is_non_int is_non_bool is_non_str is_non_list is_non_tuple is_non_dict is_bl_int is_bl_bool is_bl_str is_bl_list is_bl_tuple is_bl_dict is_int_int is_int_bool is_int_str is_int_list is_int_tuple is_int_dict is_str_int is_str_bool is_str_str is_str_list is_str_tuple is_str_dict is_tup_int is_tup_bool is_tup_str is_tup_list is_tup_tuple is_tup_dict is_lst_int is_lst_bool is_lst_str is_lst_list is_lst_tuple is_lst_dict Int.reduceAdd Int.reduceSub Int.reduceMul Int.reduceNeg Int.reduceToNat atI_0 atI_1 atI_2 atI_3 snocI snocS snocC eqF_int eqF_str eqF_bl frR shOnly".splitOn " ").toArray.map λs=>Lean.mkIdent s.toName
 `(tactic| simp(maxSteps:=2000000) only[$[$ids:ident],*])
structure Sz(w h:Int):Prop where
 w0:1<=w
 w1:w<=24
 h0:1<=h
 h1:h<=24
theorem Sz.mul{w h:Int}(s:Sz w h):1<=w*h/\w*h<=576:=by
 obtain⟨a,b,c,d⟩:=s;have e1:1*1<=w*h:=Zb1 a c (by decide) (by lia)
 have e2:w*h<=24*24:=Zb1 b d (by lia) (by decide)
 lia
theorem Sz.at{w h c r:Int}(_:Sz w h)(c0:0<=c)(c1:c<w)(r0:0<=r)(r1:r<h):0<=r*w+c/\r*w+c<w*h:=by
 have e1:0<=r*w:=Int.mul_nonneg r0 (by lia)
 have e2:(r+1)*w<=h*w:=Int.mul_le_mul_of_nonneg_right (by lia) (by lia)
 rw[Int.add_mul,Zb2] at e2;rw[Int.mul_comm w h];lia
theorem Sz.nat{w h:Int}(s:Sz w h):w.toNat*h.toNat=(w*h).toNat/\w.toNat*h.toNat<=576:=by
 have hm:=s.mul;obtain⟨a,b,c,d⟩:=s;obtain⟨x,rfl⟩:=ZaW (show 0<=w by omega)
 obtain⟨y,rfl⟩:=ZaW (show 0<=h by omega)
 have e:(x:Int)*(y:Int)=((x*y:Nat):Int):=by simp
 rw[e] at hm ⊢;simp only[ZaF];have h2:((x*y:Nat):Int)<=((576:Nat):Int):=hm.2;exact⟨trivial,Int.ofNat_le.mp h2⟩
structure Cell(w h c r:Int):Prop where
 c0:0<=c
 c1:c<w
 r0:0<=r
 r1:r<h
theorem Cell.pl{w h c r:Int}(z:Cell w h c r):(r*w+c).toNat=Mth.pl w.toNat (c,r)/\0<=r*w+c:=by
 obtain⟨c0,c1,r0,r1⟩:=z;obtain⟨a,rfl⟩:=ZaW c0;obtain⟨b,rfl⟩:=ZaW r0;obtain⟨v,rfl⟩:=ZaW (show 0<=w by omega)
 unfold Mth.pl;simp only[ZaF];have e:(b:Int)*(v:Int)+(a:Int)=((b*v+a:Nat):Int):=by simp
 rw[e,ZaF];exact⟨rfl,Zbn _⟩
theorem qi(a b:Nat):Builtin.bitOr (a:Int) (b:Int)=((a ||| b:Nat):Int):=by
 have n1:∀ x:Nat,¬0<=Builtin.bitNot (x:Int):=λx=>by unfold Builtin.bitNot;omega
 unfold Builtin.bitOr;rw[bitAnd_nn (n1 a) (n1 b),bitNot_bitNot,bitNot_bitNot,bitNot_bitNot,ZaF,ZaF]
theorem pL{lo:Int}{n i:Nat}{x:PV}(h:(kZ lo n)[i]?=some x):i<n/\x=.int (lo+(i:Int)):=by
 have hi:i<n:=by simpa[kZ] using cg h
 unfold kZ at h;rw[Zai,ZbE hi] at h;exact⟨hi,(Zaa h).symm⟩
theorem take_snoc{α:Type}{l:List α}{i:Nat}{x:α}(h:l[i]?=some x):l.take (i+1)=l.take i++[x]:=by
 rw[List.take_succ,h];rfl
theorem KH{w h c r:Int}(sz:Sz w h)(cl:Cell w h c r):j5 [.tup [.int w,.int h],.tup [.int c,.int r]]=some (.ok (.int (r*w+c))):=by
 refine bT ?_;unfold oF;walk_at "rd"
 have:=cl.r0;have:=cl.r1;have:=sz.h1;exact .inl ⟨by lia,by lia⟩
theorem HN{w h:Int}(sz:Sz w h)(ps:List (Int×Int))(hc:∀ c∈ps,Cell w h c.1 c.2):pJ [.tup [.int w,.int h],.lst (ps.map cellP)]=some (.ok (.int (Mth.uZ w.toNat ps))):=by
 refine bT ?_;unfold uG;walk_at "rd"
 refine gk (λi ρ=>∃ v,ρ=[some (.sh (.tup [.int w,.int h])),some (.sh (.lst (ps.map cellP))),some (.sh (.int (Mth.uZ w.toNat (ps.take i)))),v]) ⟨none,rfl⟩ ?_ ?_
 ·rintro i x ρ hx ⟨v,rfl⟩;rw[Zai] at hx;cases hd:ps[i]? with
  |none=>rw[hd] at hx;cases hx
  |some d=>
   rw[hd] at hx;cases hx;have cl:=hc d (Zao hd);obtain⟨e1,e2⟩:=cl.pl;have hm:=sz.mul;have ha:=sz.at cl.c0 cl.c1 cl.r0 cl.r1;unfold uE;walk_at "rd"
   rw[KH sz cl];walk_at "rd"
   have e3:(1:Int)*2^Mth.pl w.toNat (d.1,d.2)=((2^Mth.pl w.toNat d:Nat):Int):=by simp
   rw[e1,e3,qi,take_snoc hd,Mth.vJ];exact⟨by lia,by lia,by decide,_,rfl⟩
 ·rintro ρ ⟨v,rfl⟩;unfold uF;walk_at "rd"
  rw[List.take_of_length_le (by simp)]
def isL(c:Nat):Bool:=decide (97<=c/\c<=122)
def dY(z:Str):Bool:=decide (1<=z.length/\z.length<=8)&&z.cps.toList.all isL
theorem letters:(Str.ofString "abcdefghijklmnopqrstuvwxyz").cps.toList=List.range' 97 26:=by decide +kernel
theorem Dh(c:Nat):(!(Builtin.Str.occurrences (Str.ofString "abcdefghijklmnopqrstuvwxyz") ⟨#[c]⟩ 0 (Str.ofString "abcdefghijklmnopqrstuvwxyz").length 1).isEmpty)=isL c:=by
 rw[PySem.StrLaws.found_one,letters];unfold isL;rw[decide_eq_decide,List.mem_range'_1];omega
theorem pM:∀ ys:List Bool,iC (ys.map PV.bl)=some ys
 |[]=>rfl
 |y::ys=>by rw[ZaA,iC,pM ys];rfl
theorem yc(z:Str)(hz:z.length<=sizeLine):gM [.str z]=some (.ok (.bl (dY z))):=by
 refine bT (x:=m9 (startR [.str z] 0)) ?_;have no:¬(1<=z.length/\z.length<=8)->dY z=false:=λh=>by unfold dY;rw[Zaq h];rfl
 have bad:∀ {K:Rho->Prop}{QS:Out->Prop},QS (.rt (.bl false))->To (lW [some (.sh (.str z))]) (uy K QS):=λ{K QS} q=>by
  unfold lW;walk_at "rd"
  exact q
 unfold m9;walk_at "rd"
 refine⟨hz,sV (λh1=>sV (λh2=>bad ?_) (λh2=>?_)) (λh1=>bad ?_)⟩
 ·rw[no (by omega)];rfl
 ·unfold qQ;walk_at "rd"
  refine⟨by unfold MP.signs;rw[Zam,Za6];exact hz,?_⟩
  rw[T4 (λx=>match x with|.str y=>.bl (!(Builtin.Str.occurrences (Str.ofString "abcdefghijklmnopqrstuvwxyz") y 0 (Str.ofString "abcdefghijklmnopqrstuvwxyz").length 1).isEmpty)|_=>.non)]
  ·have e:(MP.signs z).map (λx=>match x with|.str y=>PV.bl (!(Builtin.Str.occurrences (Str.ofString "abcdefghijklmnopqrstuvwxyz") y 0 (Str.ofString "abcdefghijklmnopqrstuvwxyz").length 1).isEmpty)|_=>.non)=(z.cps.toList.map isL).map PV.bl:=by
    unfold MP.signs;rw[ZbZ,ZbZ];refine ZbC λc _=>?_;show PV.bl (!(Builtin.Str.occurrences _ ⟨#[c]⟩ 0 _ 1).isEmpty)=PV.bl (isL c)
    rw[Dh]
   walk_at "rd"
   rw[e,pM];refine⟨_,rfl,?_⟩;unfold dY;rw[decide_eq_true (show 1<=z.length/\z.length<=8 by omega),Bool.true_and,List.all_map]
   rfl
  ·intro x hx;obtain⟨c,hc,rfl⟩:=ZbK.mp hx;walk_at "rd"
   exact⟨_,rfl,rfl⟩
 ·rw[no (by omega)];rfl
def prP(p:Str×Str):PV:=.tup [.str p.1,.str p.2]
inductive Ink where
 |cov (name colour:Str)
 |glz (name:Str) (ps:List (Str×Str))
def Ink.name:Ink->Str
 |.cov n _=>n
 |.glz n _=>n
def qj:Ink->PV
 |.cov n c=>.tup [.str "cover",.str n,.str c]
 |.glz n ps=>.tup [.str "glaze",.str n,.tup (ps.map prP)]
theorem Di(k:Ink):(qj k).still=true:=by
 cases k with
 |cov n c=>rfl
 |glz n ps=>
  show([PV.str (Str.ofString "glaze"),.str n,.tup (ps.map prP)].all λp=>lz 4 p)=true
  simp only[Zby,List.all_nil,Bool.and_true];rw[ZaZ,ZaZ];refine⟨rfl,rfl,?_⟩;show((ps.map prP).all λp=>lz 3 p)=true
  rw[Zay];intro p hp;obtain⟨q,_,rfl⟩:=ZbK.mp hp;rfl
theorem KJ(n:Nat)(z:Int):eqF n (.int z) (.int z)=some true:=by rw[eqF_int,decide_eq_true rfl]
theorem rY{α:Type}{j:Nat}{el:Fn PV}{ρb:Rho}(g f:α->PV):∀ (l:List α),(∀ a∈l,Tv (el (ρb.set j (some (.sh (g a))))) λp=>p=f a)->fM (gN j) rC el ρb (l.map g)=some (.ok (l.map f))
 |[],_=>rfl
 |a::l,h=>by
  have e1:=PL (h a ZaO);have ih:=rY g f l λb hb=>h b (Zat _ hb);rw[ZaA,fM];simp only[gN,rC,bnd,ZaU,e1,ih,ZaA]
def gC(row:Bool):Str:=if row then Str.ofString "row" else Str.ofString "column"
def iu(row:Bool)(l f t:Int):PV:=.tup [.str (gC row),.int l,.int f,.int t]
structure On(w h:Int)(row:Bool)(l f t:Int):Prop where
 l0:0<=l
 l1:l<if row then h else w
 f0:0<=f
 ft:f<=t
 t1:t<if row then w else h
def ql(row:Bool)(l:Int)(p:Int):Int×Int:=if row then(p,l) else(l,p)
def d7(row:Bool)(l f t:Int):List (Int×Int):=(List.range (t+1-f).toNat).map λ(i:Nat)=>ql row l (f+(i:Int))
theorem FZ(row:Bool):decide (gC row=Str.ofString "column")=!row:=by cases row<;>decide +kernel
theorem On.cell{w h:Int}{row:Bool}{l f t:Int}(o:On w h row l f t){c:Int×Int}(hc:c∈d7 row l f t):Cell w h c.1 c.2:=by
 obtain⟨i,hi,rfl⟩:=ZbK.mp hc;have hi:=Zbf.mp hi;obtain⟨l0,l1,f0,ft,t1⟩:=o;unfold ql;cases row
 ·exact⟨l0,l1,by show 0<=f+(i:Int);omega,by show f+(i:Int)<h;have t1:t<h:=t1;omega⟩
 ·exact⟨by show 0<=f+(i:Int);omega,by show f+(i:Int)<w;have t1:t<w:=t1;omega,l0,l1⟩
theorem Ga(i:Int):cR [.int i]=some (.ok (.bl true)):=by
 refine bT (x:=cQ (startR [.int i] 0)) ?_;unfold cQ;walk_at "rd"
theorem Dj{row:Bool}{l f t:Int}(h:f<=t):eQ [iu row l f t]=some (.ok (.bl true)):=by
 refine bT (x:=bI (startR [iu row l f t] 0)) ?_;unfold bI iu;walk_at "rd"
 unfold dX;walk_at "rd"
 refine⟨by decide,_,xR (g:=PV.str) (λa b=>eqF_str 31 a b) (gC row) [Str.ofString "row",Str.ofString "column"],?_⟩
 have:decide (gC row∈[Str.ofString "row",Str.ofString "column"])=true:=by cases row<;>decide +kernel
 rw[this];walk_at "rd"
 unfold jq;walk_at "rd"
 rw[show o9 [PV.str (gC row),PV.int l,PV.int f,PV.int t] (some 1) none=[l,f,t].map PV.int from rfl];refine⟨by decide,ZaQ (bJ (show 3<=1000 by decide)),?_⟩
 rw[rY PV.int (λ_=>.bl true) _ λi _=>?_]
 ·walk_at "rd"
  refine⟨[true,true,true],rfl,?_⟩;rw[Zae (by rfl)]
  exact h
 ·walk_at "rd"
  rw[Ga];walk_at "rd"
theorem KN(w h:Int)(row:Bool):j7 [.tup [.int w,.int h],.str (gC row)]=some (.ok (.int (if row then h else w))):=by
 refine bT (x:=j6 (startR [.tup [.int w,.int h],.str (gC row)] 0)) ?_;unfold j6;walk_at "rd"
 cases row
 ·rw[Zaf (by decide +kernel)];rfl
 ·rw[Zae (by rfl)];rfl
theorem HQ(w h:Int)(row:Bool):iI [.tup [.int w,.int h],.str (gC row)]=some (.ok (.int (if row then w else h))):=by
 refine bT (x:=iH (startR [.tup [.int w,.int h],.str (gC row)] 0)) ?_;unfold iH;walk_at "rd"
 cases row
 ·rw[Zaf (by decide +kernel)];rfl
 ·rw[Zae (by rfl)];rfl
theorem Gb{w h:Int}{row:Bool}{l f t:Int}(hft:f<=t):fU [.tup [.int w,.int h],iu row l f t]=some (.ok (.bl (decide (0<=l/\(l<if row then h else w)/\0<=f/\t<if row then w else h)))):=by
 refine bT (x:=gO (startR [.tup [.int w,.int h],iu row l f t] 0)) ?_;unfold gO;walk_at "rd"
 rw[Dj hft];walk_at "rd"
 unfold qT iu;walk_at "rd"
 rw[KN,HQ];walk_at "rd"
 generalize (if row then h else w)=L
 generalize (if row then w else h)=P
 refine sV (λh1=>sV (λh2=>sV (λh3=>?_) λh3=>?_) λh2=>?_) λh1=>?_
 ·rw[decide_eq_decide];exact⟨λh=>⟨h1,h2,h3,h⟩,λh=>h.2.2.2⟩
 ·exact(Zaq λh=>h3 h.2.2.1).symm
 ·exact(Zaq λh=>h2 h.2.1).symm
 ·exact(Zaq λh=>h1 h.1).symm
theorem HR{row:Bool}{l f t:Int}(f0:0<=f)(ft:f<=t)(t1:t<=1000):fC [iu row l f t]=some (.ok (.lst ((d7 row l f t).map cellP))):=by
 refine N5 (x:=fB (startR [iu row l f t] 0)) ?_;unfold fB iu;walk_at "rd"
 have key:kZ f (t+1-f).toNat=(List.range (t+1-f).toNat).map λi=>PV.int (f+((i:Nat):Int)):=rfl;have len:((List.range (t+1-f).toNat).map λi=>PV.int (f+((i:Nat):Int))).length<=sizeLine:=by
  rw[Zam,List.length_range];exact Zau (show _<=1001 by lia) (by decide)
 by_cases hr:row=true
 ·subst hr;rw[Zae (by rfl)]
  unfold jE;walk_at "rd"
  rw[key];refine⟨by lia,by lia,by lia,by lia,len,?_⟩
  rw[rY (λi=>PV.int (f+((i:Nat):Int))) (λi=>cellP (ql true l (f+((i:Nat):Int)))) _ λi _=>?_]
  ·walk_at "rd"
   unfold d7;rw[ZbZ];rfl
  ·walk_at "rd"
   exact⟨by decide,rfl⟩
 ·have hr:row=false:=by simpa using hr
  subst hr;rw[Zaf (by decide +kernel)]
  unfold jF;walk_at "rd"
  rw[key];refine⟨by lia,by lia,by lia,by lia,len,?_⟩
  rw[rY (λi=>PV.int (f+((i:Nat):Int))) (λi=>cellP (ql false l (f+((i:Nat):Int)))) _ λi _=>?_]
  ·walk_at "rd"
   unfold d7;rw[ZbZ];rfl
  ·walk_at "rd"
   exact⟨by decide,rfl⟩
theorem yd{w h:Int}(sz:Sz w h){row:Bool}{l f t:Int}(o:On w h row l f t):iK [.tup [.int w,.int h],iu row l f t]=some (.ok (.int (Mth.uZ w.toNat (d7 row l f t)))):=by
 have t24:t<=1000:=by
  have q:=o.t1;have:=sz.w1;have:=sz.h1;split at q<;>omega
 refine bT (x:=iJ (startR [.tup [.int w,.int h],iu row l f t] 0)) ?_;unfold iJ;walk_at "rd"
 rw[HR o.f0 o.ft t24];walk_at "rd"
 rw[HN sz _ λc hc=>o.cell hc];walk_at "rd"
theorem uM(a:Nat):∀ b:Nat,a+b=(a ^^^ b)+2*(a &&& b):=by
 induction a using Nat.strongRecOn with
 |_ a ih=>
  intro b;by_cases h:a=0
  ·subst h;simp
  ·have this:=ih (a/2) (by omega) (b/2)
   have e1:(a ^^^ b)/2=(a/2) ^^^ (b/2):=Nat.xor_div_two;have e2:(a &&& b)/2=(a/2) &&& (b/2):=Nat.and_div_two;have t1:=Zb0 a b 0;have t2:=Zbo a b 0;rw[<-e1,<-e2] at this;simp only[Nat.testBit_zero] at t1 t2;generalize a ^^^ b=x at *
   generalize a &&& b=y at *
   rcases ZbH a with p|p<;>rcases ZbH b with q|q<;>rw[p,q] at t1 t2<;>simp at t1 t2<;>omega
def uN(n m:Nat):Nat:=n ^^^ (n &&& m)
theorem Gd(n m p:Nat):(uN n m).testBit p=(n.testBit p&&!m.testBit p):=by
 unfold uN;rw[Zb0,Zbo];cases n.testBit p<;>cases m.testBit p<;>rfl
theorem KQ(n m:Nat):Builtin.bitAnd (n:Int) (Builtin.bitNot (m:Int))=((uN n m:Nat):Int):=by
 have hn:¬(0:Int)<=Builtin.bitNot (m:Int):=by unfold Builtin.bitNot;omega
 have e:Builtin.bitAnd (n:Int) (Builtin.bitNot (m:Int))=(n:Int)-((n &&& m:Nat):Int):=by
  unfold Builtin.bitAnd;rw[decide_eq_true (Zbn n),Zaq hn,bitNot_bitNot,ZaF,ZaF]
 rw[e];have:=uM n (n &&& m);rw[<-Nat.and_assoc,Nat.and_self] at this;unfold uN;omega
def iw(w h:Int):Nat:=2^(w.toNat*h.toNat)-1
theorem HS{w h:Int}(sz:Sz w h):pI [.tup [.int w,.int h]]=some (.ok (.int (iw w h:Nat))):=by
 have hm:=sz.mul;refine bT (x:=pH (startR [.tup [.int w,.int h]] 0)) ?_;unfold pH;walk_at "rd"
 refine⟨.inl ⟨by have:=sz.w0;have:=sz.w1;omega,by have:=sz.w0;have:=sz.w1;omega⟩,by omega,by omega,by decide,?_⟩
 unfold iw;rw[sz.nat.1];have:0<2^(w*h).toNat:=Nat.pow_pos (by decide)
 rw[Zb2,show((2:Int)^(w*h).toNat)=((2^(w*h).toNat:Nat):Int) by norm_cast]
 congr 1
 omega
inductive Dd where
 |cut (b:Int) (row:Bool) (l f t:Int)
 |prt (b i:Int)
def Dd.p:Dd->PV
 |.cut b row l f t=>.tup [.str (Str.ofString "cut"),.int b,iu row l f t]
 |.prt b i=>.tup [.str (Str.ofString "print"),.int b,.int i]
def Dd.ok(w h:Int):Dd->Prop
 |.cut b row l f t=>0<=b/\On w h row l f t
 |.prt b i=>0<=b/\0<=i
def Dd.block:Dd->Int
 |.cut b ..=>b
 |.prt b _=>b
theorem KR(b:Bool):cR [.bl b]=some (.ok (.bl false)):=by
 refine bT (x:=cQ (startR [.bl b] 0)) ?_;unfold cQ;walk_at "rd"
theorem Od(z:Str):cR [.str z]=some (.ok (.bl false)):=by
 refine bT (x:=cQ (startR [.str z] 0)) ?_;unfold cQ;walk_at "rd"
theorem Oe:cR [.non]=some (.ok (.bl false)):=by
 refine bT (x:=cQ (startR [.non] 0)) ?_;unfold cQ;walk_at "rd"
def Dk(p:PV):Prop:=eQ [p]=some (.ok (.bl false))
theorem Og{w h:Int}{p:PV}(hp:Dk p):fU [.tup [.int w,.int h],p]=some (.ok (.bl false)):=by
 refine bT (x:=gO (startR [.tup [.int w,.int h],p] 0)) ?_;unfold gO;walk_at "rd"
 rw[show eQ [p]=some (.ok (.bl false)) from hp];walk_at "rd"
 unfold qR;walk_at "rd"
theorem rZ{p:PV}(hp:isI p "tuple"=some false):Dk p:=by
 refine bT (x:=bI (startR [p] 0)) ?_;unfold bI;walk_at "rd"
 refine⟨false,hp,?_⟩;walk_at "rd"
 unfold jn;walk_at "rd"
theorem KY{l:List PV}(hl:¬(l.length:Int)=4):Dk (.tup l):=by
 refine bT (x:=bI (startR [.tup l] 0)) ?_;unfold bI;walk_at "rd"
 rw[Zae hl];unfold jn;walk_at "rd"
theorem RN{a b c d:PV}(ha:isI a "str"=some false):Dk (.tup [a,b,c,d]):=by
 refine bT (x:=bI (startR [.tup [a,b,c,d]] 0)) ?_;unfold bI;walk_at "rd"
 unfold dX;walk_at "rd"
 refine⟨false,ha,?_⟩;walk_at "rd"
 unfold jo;walk_at "rd"
theorem Oh{z:Str}{b c d:PV}(hz:decide (z∈[Str.ofString "row",Str.ofString "column"])=false):Dk (.tup [.str z,b,c,d]):=by
 refine bT (x:=bI (startR [.tup [.str z,b,c,d]] 0)) ?_;unfold bI;walk_at "rd"
 unfold dX;walk_at "rd"
 refine⟨by decide,_,xR (g:=PV.str) (λa b=>eqF_str 31 a b) z [Str.ofString "row",Str.ofString "column"],?_⟩
 rw[hz];walk_at "rd"
 unfold jo;walk_at "rd"
theorem ye{row:Bool}{b c d:PV}{x y z:Bool}(hb:cR [b]=some (.ok (.bl x)))(hc:cR [c]=some (.ok (.bl y)))(hd:cR [d]=some (.ok (.bl z)))(hn:(x&&(y&&z))=false):Dk (.tup [.str (gC row),b,c,d]):=by
 refine bT (x:=bI (startR [.tup [.str (gC row),b,c,d]] 0)) ?_;unfold bI;walk_at "rd"
 unfold dX;walk_at "rd"
 refine⟨by decide,_,xR (g:=PV.str) (λa b=>eqF_str 31 a b) (gC row) [Str.ofString "row",Str.ofString "column"],?_⟩
 have:decide (gC row∈[Str.ofString "row",Str.ofString "column"])=true:=by cases row<;>decide +kernel
 rw[this];walk_at "rd"
 unfold jq;walk_at "rd"
 rw[show o9 [PV.str (gC row),b,c,d] (some 1) none=[b,c,d] from rfl];refine⟨by decide,ZaQ (bJ (show 3<=1000 by decide)),?_⟩
 walk_at "rd"
 rw[hb,hc,hd];walk_at "rd"
 refine⟨[x,y,z],rfl,?_⟩;rw[show[x,y,z].all id=(x&&(y&&z)) by simp,hn]
 simp
theorem yf{L:List PV}{i:Int}{Q:PV->Prop}(h0:0<=i)(h1:i<L.length)(h:∀ p∈L,Q p):∃ p,atI L i=some p/\Q p:=by
 obtain⟨v,e1,e2⟩:=sX (xs:=L) h0 h1;exact⟨v,e1,h v (Zao e2)⟩
theorem p9{x:Int}(h0:0<=x)(h:x<2^250):x.natAbs<2^9000:=by
 have e:(2:Nat)^250<=2^9000:=Zbv (by decide) (by decide)
 refine Zah ?_ e;have:x.natAbs<(2^250:Int).natAbs:=by omega
 rw[Int.natAbs_pow] at this;exact this
theorem Ag(ns:List Int)(k:Int)(k0:0<=k)(k1:k<=100):∃ n:Int,eU [.lst (ns.map .int),.int k]=some (.ok (.lst [.int n]))/\0<=n:=by
 have b0:((2147483648^7:Nat):Int)<2^250:=by decide
 have sm:∀ {x:Int},0<=x->x<(2147483648^7:Nat)->x.natAbs<2^9000:=λh1 h2=>p9 h1 (Int.lt_trans h2 b0);have s1:∀ {x:Int},0<=x->x<4611686018427387904->x.natAbs<2^9000:=λh1 h2=>sm h1 (Int.lt_trans h2 (by decide))
 suffices h:∃ p,eU [.lst (ns.map .int),.int k]=some (.ok p)/\∃ n:Int,p=.lst [.int n]/\0<=n by
  obtain⟨p,e,n,rfl,h⟩:=h;exact⟨n,e,h⟩
 refine N6 (x:=iT (startR [.lst (ns.map .int),.int k] 4)) ?_;refine Ac λQE hE=>?_;have go:∀ c:Int,To (jr [some (.sh (.lst (ns.map .int))),some (.sh (.int k)),some (.sh (.int c)),none,none,none]) QE:=by
  intro c;unfold jr;walk_at "rd"
  refine⟨by decide,by decide,by decide,sV (λh=>?_) (λh=>?_)⟩
  ·unfold nG;walk_at "rd"
   refine⟨by decide,by decide,by decide,by decide,bJ (by decide),hE _ ⟨_,rfl,_,rfl,ZbG _ (by decide)⟩⟩
  ·unfold nM;walk_at "rd"
   have kk:0<=48271*k*k/\48271*k*k<=4827100*100:=⟨Int.mul_nonneg (by omega) k0,Zb1 (by omega) k1 k0 (by decide)⟩
   refine⟨by decide,s1 (by decide) (by decide),s1 k0 (by omega),s1 (by omega) (by omega),s1 k0 (by omega),by decide,by decide,?_⟩
   refine gk (λi ρ=>∃ (n f:Int) (v:Option Sl),ρ=[some (.sh (.lst (ns.map .int))),some (.sh (.int k)),some (.sh (.int c)),some (.sh (.int n)),some (.sh (.int f)),v]/\0<=n/\n<4294967296/\0<=f/\f<(2147483648^i:Nat))
    ⟨_,_,none,rfl,by omega,by omega,by decide,by decide⟩ ?_ ?_
   ·rintro i x ρ hx ⟨n,f,v,rfl,n0,n1,f0,f1⟩;obtain⟨hi,rfl⟩:=pL hx;unfold nH;walk_at "rd"
    have hz:=ZbG (n*69621+7919*(0+(i:Int))) (show(2147483629:Int)≠0 by decide)
    have hy:=ZbL (n*69621+7919*(0+(i:Int))) (show(0:Int)<2147483629 by decide)
    generalize (n*69621+7919*(0+(i:Int)))%2147483629=z at hz hy ⊢
    have gz:=ZbG (z*z) (show(2147483587:Int)≠0 by decide)
    have gy:=ZbL (z*z) (show(0:Int)<2147483587 by decide)
    generalize z*z%2147483587=y at gz gy ⊢
    have hp:2147483648^i<=2147483648^7:=Zbv (by decide) (ZaQ hi)
    refine⟨s1 n0 (by omega),s1 (by decide) (by decide),s1 (by decide) (by decide),s1 (by omega) (by omega),by decide,s1 hz (by omega),s1 hz (by omega),by decide,sm f0 (by omega),s1 (by decide) (by decide),y,_,_,rfl,gz,by omega,by omega,?_⟩
    rw[Nat.pow_succ];omega
   ·rintro ρ ⟨n,f,v,rfl,n0,n1,f0,f1⟩;unfold nJ;walk_at "rd"
    exact⟨bJ (by decide),hE _ ⟨_,rfl,_,rfl,f0⟩⟩
 unfold iT;walk_at "rd"
 refine sV (λh=>?_) (λh=>go 0);unfold nF;walk_at "rd"
 exact⟨_,HJ k0 (by rw[Zam] at h;exact h),go _⟩
theorem Ah(n m:Int)(m0:0<m)(m1:m<1073741824):bB [.lst [.int n],.int m]=some (.ok (.tup [.int (n%m),.lst [.int (n/m)]])):=by
 refine bT (x:=iU (cA 0 [.lst [.int n],.int m] 1)) ?_;unfold iU;rw[show cA 0 [.lst [.int n],.int m] 1=[some (.ow (.lst [.int n])),some (.sh (.int m)),none] from rfl];walk_at "rd"
 exact⟨m0,m0,m1,0,rfl,rfl⟩
theorem fH{n m:Int}(m0:0<m)(m1:m<1073741824){Q:PV->PV->Prop}:(∃ q p',bB [.lst [.int n],.int m]=some (.ok (.tup [q,p']))/\Q q p')=Q (.int (n%m)) (.lst [.int (n/m)]):=by
 refine propext ⟨?_,λh=>⟨_,_,Ah n m m0 m1,h⟩⟩;rintro⟨q,p',e,h⟩;rw[Ah n m m0 m1] at e;cases e;exact h
theorem Dl(n:Int)(n0:0<=n):∃ w h:Int,iY [.lst [.int n]]=some (.ok (.tup [.int w,.int h]))/\1<=w/\w<=4/\1<=h/\h<=4:=by
 refine⟨1+n%4,1+n/4%4,?_,by omega,by omega,by omega,by omega⟩
 refine bT (x:=iW (cA 0 [.lst [.int n]] 1)) ?_;unfold iW;rw[show cA 0 [.lst [.int n]] 1=[some (.ow (.lst [.int n])),none] from rfl];walk_at "rd"
 rw[fH (by decide) (by decide)]
 walk_at "rd"
 rw[fH (by decide) (by decide)]
 walk_at "rd"
 exact ZaQ (bJ (by decide))
def W54(p k:Int):Str:=Txt.slice (Str.ofString "mmmm") none (some p)++⟨#[(Str.ofString "kxadzqbfwcgjyehtvn").cps.toList.getD k.toNat 0]⟩++Txt.slice (Str.ofString "mmm") (some p) none
theorem ig{p k:Int}(p0:0<=p)(p1:p<4)(k0:0<=k)(k1:k<18):cZ [.int p,.int k]=some (.ok (.str (W54 p k))):=by
 refine bT (x:=iV (startR [.int p,.int k] 0)) ?_;have sm:∀ {n:Nat},n<=30->n<=sizeLine:=λh=>ZaQ (bJ (by omega))
 unfold iV;walk_at "rd"
 obtain⟨c,e,e'⟩:=sX (xs:=(Str.ofString "kxadzqbfwcgjyehtvn").cps.toList) k0 k1;have a:(Txt.slice (Str.ofString "mmmm") none (some p)).length<=4/\(Txt.slice (Str.ofString "mmm") (some p) none).length<=4:=by
  obtain rfl|rfl|rfl|rfl:p=0\/p=1\/p=2\/p=3:=by omega
  all_goals decide +kernel
 have b:∀ x y:Str,(x++y).length=x.length+y.length:=λx y=>Array.size_append;have u:(⟨#[c]⟩:Str).length=1:=rfl;refine⟨by decide,by decide,c,e,sm (by omega),by decide,sm (by rw[b];omega),?_⟩
 unfold W54;rw[ZaR,e'];rfl
theorem wj{α β:Type}(f:α->β):∀ (l:List α) (i:Nat),(l.map f).eraseIdx i=(l.eraseIdx i).map f
 |[],_=>rfl
 |_::_,0=>rfl
 |x::l,i+1=>Zbi (f x::·) (wj f l i)
theorem Ai(n:Int)(n0:0<=n):∃ (z:Str) (l:List Ink) (p s:Int),fG [.lst [.int n]]=some (.ok (.tup [.str z,.lst (l.map qj)]))/\(2<=l.length/\l.length<=4)/\(0<=p/\p<4)/\(∃ k:Int,0<=k/\k<6/\z=W54 p k)/\∀ (i:Nat) x,l[i]?=some x->x.name=W54 ((p+1)%4) ((7*i+s)%18):=by
 suffices h:∃ v,fG [.lst [.int n]]=some (.ok v)/\∃ (z:Str) (l:List Ink) (p s:Int),v=.tup [.str z,.lst (l.map qj)]/\(2<=l.length/\l.length<=4)/\(0<=p/\p<4)/\(∃ k:Int,0<=k/\k<6/\z=W54 p k)/\∀ (i:Nat) x,l[i]?=some x->x.name=W54 ((p+1)%4) ((7*i+s)%18) by
  obtain⟨v,e,z,l,p,s,rfl,h⟩:=h;exact⟨z,l,p,s,e,h⟩
 have sm:∀ {n:Nat},n<=30->n<=sizeLine:=λh=>ZaQ (bJ (by omega))
 refine Ky (x:=gJ (cA 0 [.lst [.int n]] 10)) ?_;rw[show cA 0 [.lst [.int n]] 10=[some (.ow (.lst [.int n])),none,none,none,none,none,none,none,none,none,none] from rfl];refine Ac λQE hE=>?_;unfold gJ;walk_at "rd"
 rw[fH (by decide) (by decide)]
 have q0:0<=n%4:=by omega
 have q1:n%4<4:=by omega
 have q2:0<=n/4:=by omega
 generalize n%4=p at q0 q1 ⊢
 generalize n/4=m at q2 ⊢
 rw[fH (by decide) (by decide)]
 rw[ig q0 q1 (show 0<=m%6 by omega) (by omega),tv_some]
 rw[fH (by decide) (by decide)]
 rw[fH (by decide) (by decide)]
 have r0:0<=m/6/18/3:=by omega
 generalize m/6/18/3=a at r0 ⊢
 have s0:0<=m/6/18%3/\m/6/18%3<3:=by omega
 generalize m/6/18%3=c at s0 ⊢
 generalize m/6%18=s
 have t0:0<=m%6/\m%6<6:=by omega
 generalize m%6=k at t0 ⊢
 walk_at "rd"
 refine⟨by omega,by omega,?_⟩
 refine gk (λi ρ=>∃ (n:Int) (l:List Ink) (v5 v6 v7 v8 v9 v10:Option Sl),ρ=[some (.ow (.lst [.int n])),some (.sh (.int p)),some (.sh (.str (W54 p k))),some (.sh (.int s)),some (.ow (.lst (l.map qj))),v5,v6,v7,v8,v9,v10]/\l.length=i/\0<=n/\∀ (i:Nat) x,l[i]?=some x->x.name=W54 ((p+1)%4) ((7*i+s)%18))
  ⟨a,[],none,none,none,none,none,none,rfl,rfl,r0,λi x h=>nomatch h⟩ ?_ ?_
 ·rintro i x ρ hx ⟨n,l,v5,v6,v7,v8,v9,v10,rfl,hl,n0,hN⟩;refine Fy λQS hQ=>?_;obtain⟨hi,rfl⟩:=pL hx;clear hE
  rw[show(0+(i:Int))=i from Int.zero_add _];have good:∀ {n:Int}{x:Ink}{v5 v6 v7 v8 v9 v10:Option Sl},0<=n->x.name=W54 ((p+1)%4) ((7*i+s)%18)->QS (.nx [some (.ow (.lst [.int n])),some (.sh (.int p)),some (.sh (.str (W54 p k))),some (.sh (.int s)),some (.ow (.lst (l.map qj++[qj x]))),v5,v6,v7,v8,v9,v10]):=λ{n x} _ _ _ _ _ _ n0 hx=>by
   refine hQ _ ⟨n,l++[x],_,_,_,_,_,_,by rw[Za5];rfl,by rw[Zaw,hl];rfl,n0,λj y hy=>?_⟩
   rcases Nat.lt_or_ge j l.length with h|h
   ·rw[Zan h] at hy;exact hN j y hy
   ·rw[Zap h] at hy;have:j-l.length=0:=by
     rcases Nat.eq_zero_or_pos (j-l.length) with h|h
     ·exact h
     ·rw[Za2 h] at hy;cases hy
    rw[this] at hy;cases hy;rw[show j=i by omega];exact hx
  clear hQ
  unfold my;walk_at "rd"
  refine⟨by decide,.inl ⟨by decide,by decide⟩,by decide,?_⟩
  rw[ig (show 0<=(p+1)%4 by omega) (by omega) (show 0<=(7*(i:Int)+s)%18 by omega) (by omega),tv_some,fH (by decide) (by decide)]
  have m0:0<=n/3:=by omega
  generalize n/3=m at m0 ⊢
  walk_at "rd"
  refine sV (λ_=>?_) (λ_=>?_)
  ·unfold lY;walk_at "rd"
   rw[fH (by decide) (by decide),ig q0 q1 (show 0<=m%6 by omega) (by omega)]
   walk_at "rd"
   exact⟨sm (by decide),by rw[Zam];exact bJ (by omega),good (x:=.cov _ _) (by omega) rfl⟩
  ·unfold mq;walk_at "rd"
   refine⟨by decide,by decide,?_⟩
   rw[fH (by decide) (by decide)]
   have c0:0<=m%3/\m%3<3:=by omega
   have a0:0<=m/3:=by omega
   generalize m%3=c at c0 ⊢
   generalize m/3=a at a0 ⊢
   walk_at "rd"
   refine⟨by omega,by omega,?_⟩
   refine gk (λj ρ=>∃ (n:Int) (us:List Int) (ps:List (Str×Str)) (v9 v10:Option Sl),ρ=[some (.ow (.lst [.int n])),some (.sh (.int p)),some (.sh (.str (W54 p k))),some (.sh (.int s)),some (.ow (.lst (l.map qj))),some (.sh (.int i)),some (.sh (.str (W54 ((p+1)%4) ((7*i+s)%18)))),some (.ow (.lst (us.map .int))),some (.ow (.lst (ps.map prP))),v9,v10]/\0<=n/\ps.length=j/\us.length+j=6/\∀ u∈us,0<=u/\u<18)
    ⟨a,[0,1,2,3,4,5],[],v9,v10,rfl,a0,rfl,rfl,by decide⟩ ?_ ?_
   ·rintro j x ρ hx ⟨n,us,ps,v9,v10,rfl,n0,hp,hu,hb⟩;refine Fy λQT hT=>?_;have hj:=(pL hx).1;unfold lZ;walk_at "rd"
    rw[fH (by rw[Zam];omega) (by rw[Zam];omega)]
    have h0:0<=n%((us.map PV.int).length:Int)/\n%((us.map PV.int).length:Int)<us.length:=by
     rw[Zam];exact⟨ZbG _ (by omega),ZbL _ (by omega)⟩
    have g0:0<=n/((us.map PV.int).length:Int):=Int.ediv_nonneg n0 (by omega)
    generalize n%((us.map PV.int).length:Int)=e at h0 ⊢
    generalize n/((us.map PV.int).length:Int)=d at g0 ⊢
    have he:e.toNat<us.length:=by omega
    walk_at "rd"
    refine⟨by omega,by omega,.int us[e.toNat],by rw[Zai,Zav he];rfl,?_⟩
    have hm:=hb _ (ZbT he);generalize us[e.toNat]=u at hm ⊢
    rw[ig q0 q1 hm.1 hm.2,tv_some,fH (by decide) (by decide),ig q0 q1 (show 0<=d%6 by omega) (by omega)]
    walk_at "rd"
    refine⟨sm (by decide),by rw[Zam];exact bJ (by omega),hT _ ⟨d/6,us.eraseIdx e.toNat,ps++[(_,_)],_,_,by rw[Za5,wj];rfl,by omega,by rw[Zaw,hp];rfl,by rw[List.length_eraseIdx_of_lt he];omega,λu hu=>hb u (List.mem_of_mem_eraseIdx hu)⟩⟩
   ·rintro ρ ⟨n,us,ps,v9,v10,rfl,n0,hp,hu,hb⟩;unfold mj;walk_at "rd"
    rw[dD] at hp;exact⟨sm (by decide),by rw[Zam];exact bJ (by omega),good (x:=.glz _ _) n0 rfl⟩
 ·rintro ρ ⟨n,l,v5,v6,v7,v8,v9,v10,rfl,hl,n0,hN⟩;unfold mz;rw[onNx_nx,to_frz,RL (p:=.lst (l.map qj)) rfl];walk_at "rd"
  rw[dD] at hl;exact⟨sm (by decide),hE _ ⟨_,rfl,_,_,p,s,rfl,⟨by omega,by omega⟩,⟨q0,q1⟩,⟨k,t0.1,t0.2,rfl⟩,hN⟩⟩
section
variable{ρ:Rho}{QS:Out->Prop}{Q:PV->Prop}{s t:Sn}{p:PV}
theorem yg:To (lU s t ρ) QS=To (s ρ) (uy (λρ'=>To (t ρ') QS) λ_=>False):=by
 unfold lU;refine propext ⟨?_,?_⟩
 ·rintro⟨o,e,c,q⟩;split at e
  ·rename_i ρ' h;exact⟨_,h,trivial,o,e,c,q⟩
  ·cases e;exact c.elim
  ·cases e
 ·rintro⟨o,e,c,q⟩;cases o with
  |nx ρ'=>rw[e];exact q
  |_=>exact q.elim
theorem Ge{c:Str}(h:s ρ=some (.ex (.exc c []))):lU s t ρ=some (.ex (.exc c [])):=by unfold lU;rw[h]
theorem Oi{z:PV}(h:To (s ρ) (uy (λρ'=>t ρ'=some (.ex z)) λ_=>False)):lU s t ρ=some (.ex z):=by
 obtain⟨o,e,c,q⟩:=h;unfold lU;cases o with
 |nx ρ'=>rw[e];exact q
 |_=>exact q.elim
theorem KZ{x:Option Sl}{r:Rho}:To (Ku p s (x::r)) QS=(r.all RJ=true/\To (s (some (.dp p)::r)) QS):=by
 show To (if _ then _ else _) _=_
 by_cases h:r.all RJ=true
 ·rw[Zae h];exact propext ⟨λq=>⟨h,q⟩,λq=>q.2⟩
 ·rw[Zaf h];exact propext ⟨λ⟨_,e,_⟩=>(by cases e),λq=>absurd q.1 h⟩
theorem Aj{cls g:Str}{fe fk:Fn PV}{i:Nat}{l:List (Str×PV)}{d:List (Key×PV)}(h1:ρ[i]?=some (some (.dp (.obj cls l))))(h2:l.lookup g=some (.dk d))(h3:(d.all λkv=>kv.2.flat)=true)
  (h:Tv (fe ρ) λp=>p.flat=true/\Tv (fk ρ) λk=>∃ d',Cr (.dk d) k p=some (.dk d')/\QS (.nx (ρ.set i (some (.dp (.obj cls (CW l g (.dk d')))))))):To (uw cls i g fe fk ρ) QS:=by
 obtain⟨p,e,hp,k,ek,d',ed,q⟩:=h;refine⟨.nx _,?_,trivial,q⟩;unfold uw ir;rw[e,h1];show(if cls=cls then _ else _)=_
 rw[Zae rfl,h2];show(if _ then _ else _)=_
 rw[Zae ⟨hp,h3⟩,ek];show(match Cr (.dk d) k p with|some (.dk d')=>_|_=>none)=_
 rw[ed]
theorem jG{cls g:Str}{fe:Fn PV}{i:Nat}{l:List (Str×PV)}(h1:ρ[i]?=some (some (.dp (.obj cls l))))(h2:l.lookup g=none/\l.length<1000)(h:Tv (fe ρ) λq=>QS (.nx (ρ.set i (some (.dp (.obj cls (l++[(g,q)]))))))):To (gG cls i g fe ρ) QS:=by
 obtain⟨q,e,z⟩:=h;refine⟨.nx _,?_,trivial,z⟩;unfold gG ir;rw[h1];show(if _ then _ else _)=_
 rw[Zae ⟨rfl,h2.1,h2.2⟩,e];rfl
theorem Gf{m:List PV->Option (Res PV)}{fa:Fn PV}{fs:Fn (List PV)}:Tv (zY m fa fs ρ) Q=Tv (fa ρ) (λp=>Tv (fs ρ) λl=>Tv (m (p::l)) Q):=by
 unfold zY;rw[tv_bnd];congr 1;funext p;rw[tv_bnd];congr 1;funext l;refine propext ⟨?_,λ⟨r,e,q⟩=>⟨r,by rw[e],q⟩⟩
 rintro⟨r,e,q⟩;split at e
 ·rename_i q1 h1;cases e;exact⟨_,h1,q⟩
 ·cases e
theorem Oj{cls:Str}{m:List PV->Option (Res PV)}{fs:Fn (List PV)}:Tv (Ft cls m fs ρ) Q=Tv (fs ρ) (λl=>∃ p,m (.obj cls []::l)=some (.ok (.tup [.non,p]))/\Q p):=by
 unfold Ft;rw[tv_bnd];congr 1;funext l;refine propext ⟨?_,λ⟨r,e,q⟩=>⟨r,by rw[e],q⟩⟩
 rintro⟨r,e,q⟩;split at e
 ·rename_i q1 h1;cases e;exact⟨_,h1,q⟩
 ·cases e
theorem K1{cls mn:Str}{m:List PV->Option (Res PV)}{fs:Fn (List PV)}{i:Nat}{l:List (Str×PV)}(h1:ρ[i]?=some (some (.dp (.obj cls l))))(h2:l.lookup mn=none)(h:Tv (fs ρ) λxs=>∃ p',m (.obj cls l::xs)=some (.ok (.tup [.non,p']))/\QS (.nx (ρ.set i (some (.dp p'))))):To (g8 (uo cls mn i m fs) ρ) QS:=by
 obtain⟨xs,e,p',em,q⟩:=h;have go:lR cls mn i m fs ρ=some (.nx (ρ.set i (some (.dp p')))):=by
  unfold lR ir;rw[h1];show(if _ then _ else _)=_
  rw[Zae ⟨rfl,h2⟩,e];show(match m (.obj cls l::xs) with|some (.ok (.tup [.non,p']))=>_|some (.ex z)=>_|_=>none)=_
  rw[em]
 exact gq ⟨.nx _,by unfold uo;rw[go],trivial,_,rfl,q⟩
theorem uO{j:Nat}{x:PV}{xs:List PV}(h:To (s (ρ.set j (some (.sh x)))) λo=>∃ ρ2,o=.nx ρ2/\To (loop (gN j) s xs ρ2) QS):To (loop (gN j) s (x::xs) ρ) QS:=by
 obtain⟨o,e,_,ρ2,rfl,o2,e2,q⟩:=h;exact⟨o2,(HD rfl e).trans e2,q⟩
theorem Gg{p:PV}(h:To (s ρ) λo=>∃ r,o=.nx (some (.dp p)::r)):Kv (s ρ)=some (.ok (.tup [.non,p])):=by
 obtain⟨o,e,_,r,rfl⟩:=h;rw[e];rfl
theorem Ol{p:PV}(h:To (s ρ) λo=>∃ r,o=.nx (some (.dp p)::r)):RC (s ρ)=some (.ok (.tup [.non,p])):=by
 obtain⟨o,e,_,r,rfl⟩:=h;rw[e];rfl
theorem Gh{c:Str}(h:s ρ=some (.ex (.exc c []))):Kv (s ρ)=some (.ex (.exc c [])):=by rw[h];rfl
end
section
variable{W:List (Key×PV)}{z:Str}{p:PV}
theorem Ak(h:dY z=true):z.length<=8:=by
 unfold dY at h;rw[ZaZ,decide_eq_true_eq] at h;exact h.1.2
theorem ws{n:Nat}(h:n<=1000):n<=sizeLine:=ZaQ (bJ h)
theorem uP(hz:dY z=true)(hv:fK W (.inr z)=some p):cU [.dk W,.str z]=some (.ok .non):=by
 refine bT (x:=dq (startR [.dk W,.str z] 0)) ?_;unfold dq;walk_at "rd"
 rw[yc z (ws (by have:=Ak hz;omega)),hz]
 walk_at "rd"
 rw[hv];exact trivial
theorem K3(hl:z.length<=1000)(h:dY z=false\/fK W (.inr z)=none):cU [.dk W,.str z]=some (.ex (.exc "NoName" [])):=by
 show fin (dq (startR [.dk W,.str z] 0))=_
 unfold dq;rw[PN (z:=.exc "NoName" [])]
 ·rfl
 ·walk_at "rd"
  rw[yc z (ws hl)];walk_at "rd"
  by_cases h1:dY z=false
  ·rw[Zae h1];rfl
  ·rw[Zaf h1,h.resolve_left h1];rfl
theorem Kd(hz:dY z=true)(hv:fK W (.inr z)=none):iQ [.dk W,.str z]=some (.ok .non):=by
 refine bT (x:=iM (startR [.dk W,.str z] 0)) ?_;unfold iM;walk_at "rd"
 rw[yc z (ws (by have:=Ak hz;omega)),hz]
 walk_at "rd"
 unfold nC;walk_at "rd"
 rw[hv];exact trivial
end
def wk(bench:PV)(w h:Int)(sts:List PV)(W P:List (Key×PV)):List (Str×PV):=[("bench",bench),("size",.tup [.int w,.int h]),("states",.lst sts),("woods",.dk W),("prints",.dk P)]
def bL(bench:PV)(w h:Int)(sts:List PV)(W P:List (Key×PV)):PV:=.obj "Shop" (wk bench w h sts W P)
section
variable{bench:PV}{w h:Int}{sts:List PV}{W P W':List (Key×PV)}{z:Str}{p:PV}
theorem sr:(wk bench w h sts W P).lookup (Str.ofString "size")=some (.tup [.int w,.int h]):=by kernel_rfl
theorem fJ:(wk bench w h sts W P).lookup (Str.ofString "woods")=some (.dk W):=by kernel_rfl
theorem wu:CW (wk bench w h sts W P) "woods" (.dk W')=wk bench w h sts W' P:=by kernel_rfl
theorem mH{g:Str}{q:PV}{Q:PV->Prop}(e:(wk bench w h sts W P).lookup g=some q):(∃ c l,bL bench w h sts W P=.obj c l/\c=Str.ofString "Shop"/\∃ q',l.lookup g=some q'/\Q q')=Q q:=by
 refine propext ⟨?_,λz=>⟨_,_,rfl,rfl,q,e,z⟩⟩;rintro⟨c,l,e1,e2,q',e3,z⟩;unfold bL at e1;cases e1;rw[e] at e3;cases e3;exact z
theorem K4(sz:Sz w h)(hz:dY z=true)(hv:fK W (.inr z)=none)(hf:(W.all λkv=>kv.2.flat)=true)(hl:W.length<=900) :
  fD [bL bench w h sts W P,.str z]=some (.ok (.tup [.non,bL bench w h sts (dG W (.inr z) (.int (iw w h:Nat))) P])):=by
 refine Gg (s:=gH (bL bench w h sts W P)) ?_;unfold gH;rw[yg];walk_at "rd"
 rw[mH fJ,Kd hz hv];walk_at "rd"
 rw[KZ];refine⟨rfl,?_⟩;unfold lX;refine gq (Aj rfl fJ hf ?_);walk_at "rd"
 rw[mH sr,HS sz];walk_at "rd"
 exact⟨rfl,rfl,_,by rw[xT,Zae (bJ (by omega))],_,rfl,_,by rw[wu];rfl⟩
theorem K5{th:PV}(hl:z.length<=1000)(hv:dY z=false\/fK W (.inr z)=none):cD [bL bench w h sts W P,.str z,th]=some (.ex (.exc "NoName" [])):=by
 refine Gh (s:=dI (bL bench w h sts W P)) ?_;unfold dI;refine Ge (N8 (Oa ?_));walk_at "rd"
 rw[mH fJ,K3 hl hv]
theorem RP{th:PV}(hz:dY z=true)(hv:fK W (.inr z)=some p)(hs:fU [.tup [.int w,.int h],th]=some (.ok (.bl false))):cD [bL bench w h sts W P,.str z,th]=some (.ex (.exc "NoStroke" [])):=by
 refine Gh (s:=dI (bL bench w h sts W P)) ?_;unfold dI;refine Oi ?_;walk_at "rd"
 rw[mH fJ,uP hz hv];walk_at "rd"
 refine Ge (PN ?_);walk_at "rd"
 rw[mH sr,hs];walk_at "rd"
 rfl
theorem RQ{a:Nat}{row:Bool}{l f t:Int}(sz:Sz w h)(o:On w h row l f t)(hz:dY z=true)(hv:fK W (.inr z)=some (.int a))(hf:(W.all λkv=>kv.2.flat)=true)(hl:W.length<=900) :
  cD [bL bench w h sts W P,.str z,iu row l f t]=some (.ok (.tup [.non,bL bench w h sts (dG W (.inr z) (.int (uN a (Mth.uZ w.toNat (d7 row l f t)):Nat))) P])):=by
 refine Gg (s:=dI (bL bench w h sts W P)) ?_;unfold dI;rw[yg];walk_at "rd"
 rw[mH fJ,uP hz hv];walk_at "rd"
 rw[yg];walk_at "rd"
 rw[mH sr,Gb o.ft,decide_eq_true ⟨o.l0,o.l1,o.f0,o.t1⟩];walk_at "rd"
 rw[KZ];refine⟨rfl,?_⟩;unfold pK;refine gq (Aj rfl fJ hf ?_);walk_at "rd"
 rw[mH fJ];walk_at "rd"
 refine⟨_,hv,?_⟩;rw[mH sr,yd sz o];walk_at "rd"
 rw[KQ];exact⟨rfl,rfl,_,by rw[xT,Zae (bJ (by omega))],_,rfl,_,by rw[wu];rfl⟩
theorem Om(hz:dY z=true)(hv:fK W (.inr z)=some p):gr [bL bench w h sts W P,.str z]=some (.ok p):=by
 refine bT (x:=iR (startR [bL bench w h sts W P,.str z] 0)) ?_;unfold iR;walk_at "rd"
 rw[mH fJ,uP hz hv];walk_at "rd"
 rw[mH fJ];walk_at "rd"
 exact⟨_,hv,rfl⟩
theorem Oo{b:Str}{inks:List PV}(hi:inks.all PV.still=true)(hs:sts.all PV.still=true)(li:inks.length<=900)(ls:sts.length<=900) :
  dm [.obj "Shop" [],.tup [.str b,.lst inks],.tup [.int w,.int h],.lst sts]=some (.ok (.tup [.non,bL (.tup [.str b,.lst inks]) w h sts [] []])):=by
 refine Ol (s:=dZ) (ρ:=[some (.dp (.obj "Shop" [])),some (.sh (.tup [.str b,.lst inks])),some (.sh (.tup [.int w,.int h])),some (.sh (.lst sts))]) ?_;unfold dZ;rw[to_seq];refine gq (jG rfl ⟨rfl,by show 0<1000;decide⟩ ?_)
 walk_at "rd"
 refine⟨rfl,hi,ws (by decide),_,rfl,?_⟩
 refine gq (jG rfl ⟨by kernel_rfl,by show 1<1000;decide⟩ ?_)
 walk_at "rd"
 refine⟨rfl,_,rfl,?_⟩;refine gq (jG rfl ⟨by kernel_rfl,by show 2<1000;decide⟩ ?_)
 walk_at "rd"
 refine⟨hs,_,rfl,?_⟩;refine gq (jG rfl ⟨by kernel_rfl,by show 3<1000;decide⟩ ⟨_,rfl,_,rfl,?_⟩)
 exact gq (jG rfl ⟨by kernel_rfl,by show 4<1000;decide⟩ ⟨_,rfl,_,rfl,_,rfl⟩)
end
theorem RT(i:Nat):(2^i-1) ||| 2^i=2^(i+1)-1:=Zbw λp=>by
 rw[Nat.testBit_or,Zbd,Zbd,Nat.testBit_two_pow];by_cases h:i=p
 ·subst h;simp
 ·have:decide (p<i)=decide (p<i+1):=decide_eq_decide.mpr (by omega)
  simp[h,this]
theorem Al{w h:Int}(sz:Sz w h):gw [.tup [.int w,.int h]]=some (.ok (.int (iw w h:Nat))):=by
 have hm:=sz.mul;have w0:=sz.w0;have w1:=sz.w1;refine bT (x:=jc (startR [.tup [.int w,.int h]] 2)) (Ac λQS hQ=>?_);unfold jc;walk_at "rd"
 refine⟨.inl ⟨by omega,by omega⟩,by omega,by omega,?_⟩
 refine gk (λi ρ=>∃ v:Option Sl,ρ=[some (.sh (.tup [.int w,.int h])),some (.sh (.int (2^i-1:Nat))),v]) ⟨none,rfl⟩ ?_ ?_
 ·rintro i x ρ hx ⟨v,rfl⟩;obtain⟨hi,rfl⟩:=pL hx;unfold nU;walk_at "rd"
  refine⟨by omega,by omega,by decide,some (.sh (.int (0+(i:Int)))),?_⟩
  rw[show(1:Int)*2^(0+(i:Int)).toNat=((2^i:Nat):Int) by rw[Zb2,Int.zero_add,ZaF];norm_cast,qi,RT]
 ·rintro ρ ⟨v,rfl⟩;unfold nW;walk_at "rd"
  refine hQ _ ?_;rw[dD];unfold iw;rw[sz.nat.1];rfl
theorem K6{w h:Int}(sz:Sz w h){row:Bool}{l f t:Int}(o:On w h row l f t):jb [.tup [.int w,.int h],iu row l f t]=some (.ok (.int (Mth.uZ w.toNat (d7 row l f t):Nat))):=by
 refine bT (x:=iZ (startR [.tup [.int w,.int h],iu row l f t] 4)) (Ac λQS hQ=>?_);have w0:=sz.w0;have w1:=sz.w1;have h0:=sz.h0;have h1:=sz.h1;have gc:∀ i:Nat,i<(t+1-f).toNat->(d7 row l f t)[i]?=some (ql row l (f+(i:Int))):=λi hi=>by
  unfold d7;rw[Zai,ZbE hi];rfl
 have t24:t<=1000:=by have t1:=o.t1;split at t1<;>omega
 have f0:=o.f0;have ft:=o.ft;unfold iZ;rw[show iu row l f t=.tup [.str (gC row),.int l,.int f,.int t] from rfl];walk_at "rd"
 refine⟨by omega,by omega,by omega,by omega,?_⟩
 refine gk (λi ρ=>∃ v3 v4 v5:Option Sl,ρ=[some (Sl.sh (PV.tup [PV.int w,PV.int h])),some (Sl.sh (PV.tup [PV.str (gC row),PV.int l,PV.int f,PV.int t])),some (Sl.sh (PV.int (Mth.uZ w.toNat ((d7 row l f t).take i):Nat))),v3,v4,v5]) ⟨none,none,none,rfl⟩ ?_ ?_
 ·rintro i x ρ hx ⟨v3,v4,v5,rfl⟩;obtain⟨hi,rfl⟩:=pL hx;have tk:=take_snoc (gc i hi);have cl:=o.cell (Zao (gc i hi));rw[tk,Mth.vJ];refine Fy λQS hQ=>?_;have go:∀ c r:Int,ql row l (f+(i:Int))=(c,r)->To (jt [some (Sl.sh (PV.tup [PV.int w,PV.int h])),some (Sl.sh (PV.tup [PV.str (gC row),PV.int l,PV.int f,PV.int t])),some (Sl.sh (PV.int (Mth.uZ w.toNat ((d7 row l f t).take i):Nat))),some (.sh (.int (f+(i:Int)))),some (.sh (.int c)),some (.sh (.int r))]) QS:=λc r e=>by
   rw[e] at cl hQ;have pl:(r*w+c).toNat=Mth.pl w.toNat (c,r)/\0<=r*w+c:=cl.pl;have at':0<=r*w+c/\r*w+c<w*h:=Sz.at sz cl.c0 cl.c1 cl.r0 cl.r1;have hm:=sz.mul;have r0:0<=r:=cl.r0;have r1:r<h:=cl.r1;unfold jt;walk_at "rd"
   refine⟨.inl ⟨by omega,by omega⟩,by omega,by omega,by decide,hQ _ ⟨some (.sh (.int (f+(i:Int)))),some (.sh (.int c)),some (.sh (.int r)),?_⟩⟩
   rw[pl.1,show(1:Int)*2^(Mth.pl w.toNat (c,r))=((2^(Mth.pl w.toNat (c,r)):Nat):Int) by rw[Zb2];norm_cast,qi]
  unfold nQ;walk_at "rd"
  refine⟨_,_,rfl,sV (λq=>?_) λq=>?_⟩
  ·have hr:row=false:=by
    have:=FZ row;rw[decide_eq_true q] at this;cases row
    ·rfl
    ·cases this
   unfold nO;walk_at "rd"
   exact⟨_,_,rfl,go _ _ (by rw[hr];rfl)⟩
  ·have hr:row=true:=by
    have:=FZ row;rw[Zaq q] at this;cases row
    ·cases this
    ·rfl
   exact go _ _ (by rw[hr];rfl)
 ·rintro ρ ⟨v3,v4,v5,rfl⟩;unfold nR;walk_at "rd"
  exact hQ _ (by rw[dD,List.take_of_length_le (by unfold d7;simp)];rfl)
theorem PP(a b:Nat):Builtin.bitAnd (a:Int) (b:Int)=((a &&& b:Nat):Int):=by
 rw[bitAnd_pp (Zbn _) (Zbn _),ZaF,ZaF]
theorem Ua(a b:Nat):Builtin.bitXor (a:Int) (b:Int)=((a ^^^ b:Nat):Int):=by
 have h1:Builtin.bitXor (a:Int) (b:Int)=(a:Int)+b-2*Builtin.bitAnd (a:Int) (b:Int):=PyProof.Rows.bitXor_and _ _;rw[h1,PP];have:=uM a b;omega
theorem Oq{w h:Int}{a:Nat}(g:Nat)(ha:a<=iw w h):Builtin.bitAnd (a:Int) (Builtin.bitXor (iw w h:Nat) (g:Nat))=(uN a g:Nat):=by
 rw[Ua,PP];congr 1
 refine Zbw λp=>?_;rw[Gd,Zbo,Zb0];unfold iw at ha ⊢;rw[Zbd];by_cases hp:p<w.toNat*h.toNat
 ·rw[decide_eq_true hp];cases a.testBit p<;>cases g.testBit p<;>rfl
 ·have:0<2^(w.toNat*h.toNat):=Nat.pow_pos (by decide)
  rw[Nat.testBit_lt_two_pow (Zah (show a<2^(w.toNat*h.toNat) by omega) (Zbv (by decide) (show w.toNat*h.toNat<=p by omega)))]
  rfl
theorem K7(a g:Nat):uN a g<=a:=by
 have:=uM (uN a g) (a &&& g);have e:uN a g &&& (a &&& g)=0:=Zbw λp=>by rw[Zbo,Gd,Zbo,Nat.zero_testBit];cases a.testBit p<;>cases g.testBit p<;>rfl
 have e2:uN a g ^^^ (a &&& g)=a:=by unfold uN;rw[Nat.xor_assoc,Nat.xor_self,Nat.xor_zero]
 omega
def qW(a b c d e:Bool):PV:=.lst [.bl a,.bl b,.bl c,.bl d,.bl e]
theorem HW:dJ [.non]=some (.ok (qW false false false false false)):=by kernel_rfl
theorem Dm:dJ [.exc "NoName" []]=some (.ok (qW true true false false false)):=by kernel_rfl
theorem yh:dJ [.exc "NoStroke" []]=some (.ok (qW true false false false true)):=by kernel_rfl
theorem K8:eO [.str ""]=some (.ok (qW false false false false false)):=by kernel_rfl
theorem HX:eO [.str "NoName"]=some (.ok (qW true true false false false)):=by kernel_rfl
theorem Am:eO [.str "NoStroke"]=some (.ok (qW true false false false true)):=by kernel_rfl
theorem Ot{s:Sn}{hh:PV->Sn}{ρ ρ':Rho}{QS:Out->Prop}(h:s ρ=some (.nx ρ'))(q:QS (.nx ρ')):To (ur s hh ρ) QS:=⟨.nx _,by unfold ur;rw[h],trivial,q⟩
theorem Ou{s:Sn}{hh:PV->Sn}{ρ:Rho}{z:PV}{QS:Out->Prop}(h:s ρ=some (.ex z))(q:To (hh z ρ) QS):To (ur s hh ρ) QS:=by unfold ur;rw[h];exact q
theorem An{x:Option Out}{p:PV}(h:To x λo=>o=.rt p):Km x=some (.ok p):=by obtain⟨o,e,_,rfl⟩:=h;rw[e];rfl
section
variable{bench:PV}{w h:Int}{sts:List PV}{W P W':List (Key×PV)}{z:Str}{th:PV}
theorem Ov(hc:cD [bL bench w h sts W P,.str z,th]=some (.ok (.tup [.non,bL bench w h sts W' P]))):dO [bL bench w h sts W P,.str z,th]=some (.ok (.tup [.non,bL bench w h sts W' P])):=by
 refine An (x:=dN [some (.dp (bL bench w h sts W P)),some (.sh (.str z)),some (.sh th),none,none]) ?_;unfold dN;walk_at "rd"
 refine Ot (ρ':=[some (.dp (bL bench w h sts W' P)),some (.sh (.str z)),some (.sh th),some (.sh .non),none]) ?_ ?_
 ·unfold uq lR ir;show(if _ then _ else _)=_
  rw[Zae ⟨rfl,by kernel_rfl⟩]
  show(match cD [bL bench w h sts W P,.str z,th] with|some (.ok (.tup [.non,p']))=>_|some (.ex z)=>_|_=>none)=_
  rw[hc];rfl
 ·walk_at "rd"
theorem Gi{c:Str}(hs:fX c=some true)(hc:cD [bL bench w h sts W P,.str z,th]=some (.ex (.exc c []))):dO [bL bench w h sts W P,.str z,th]=some (.ok (.tup [.exc c [],bL bench w h sts W P])):=by
 refine An (x:=dN [some (.dp (bL bench w h sts W P)),some (.sh (.str z)),some (.sh th),none,none]) ?_;unfold dN;walk_at "rd"
 refine Ou (z:=.exc c []) ?_ ?_
 ·unfold uq lR ir;show(if _ then _ else _)=_
  rw[Zae ⟨rfl,by kernel_rfl⟩]
  show(match cD [bL bench w h sts W P,.str z,th] with|some (.ok (.tup [.non,p']))=>_|some (.ex z)=>_|_=>none)=_
  rw[hc]
 ·rw[RM hs];unfold mD;walk_at "rd"
end
theorem K9{w h:Int}{row:Bool}{l f t:Int}(ft:f<=t):je [.tup [.int w,.int h],iu row l f t]=some (.ok (.bl (decide (0<=l/\(l<if row then h else w)/\0<=f/\t<if row then w else h)))):=by
 have go:∀ al ac:Int,To (ju [some (.sh (.tup [.int w,.int h])),some (.sh (.tup [.str (gC row),.int l,.int f,.int t])),some (.sh (.int al)),some (.sh (.int ac))]) (λo=>fin (some o)=some (.ok (.bl (decide (0<=l/\l<ac/\0<=f/\t<al))))):=λal ac=>by
  unfold ju;walk_at "rd"
  by_cases a:0<=l
  ·rw[Zae a];by_cases b:l<ac
   ·rw[Zae b];by_cases c:0<=f
    ·rw[Zae c,Zae ft];exact decide_eq_decide.mpr ⟨λd=>⟨a,b,c,d⟩,λd=>d.2.2.2⟩
    ·rw[Zaf c,Zaq λd=>c d.2.2.1]
   ·rw[Zaf b,Zaq λd=>b d.2.1]
  ·rw[Zaf a,Zaq λd=>a d.1]
 refine bT (x:=jd (startR [.tup [.int w,.int h],.tup [.str (gC row),.int l,.int f,.int t]] 2)) ?_;unfold jd;walk_at "rd"
 cases row
 ·rw[Zae (by decide +kernel)]
  unfold nY;walk_at "rd"
  exact⟨_,_,rfl,go _ _⟩
 ·rw[Zaf (by decide +kernel)]
  exact go _ _
theorem Ow{c:Int}{row:Bool}{l f t:Int}:∃ p,j9 [.int c,iu row l f t]=some (.ok p)/\Dk p:=by
 refine Ky (x:=j8 (startR [.int c,.tup [.str (gC row),.int l,.int f,.int t]] 1)) ?_;have sm:∀ {n:Nat},n<=30->n<=sizeLine:=λh=>ZaQ (bJ (by omega))
 unfold j8;walk_at "rd"
 rw[show o9 [PV.str (gC row),.int l,.int f,.int t] (some 1) none=[.int l,.int f,.int t] from rfl,show o9 [PV.str (gC row),.int l,.int f,.int t] none (some 3)=[.str (gC row),.int l,.int f] from rfl];refine⟨by decide,sm (by decide),by simp,sm (by decide),sm (by decide),by decide,by simp,sm (by show 4<=30;decide),sm (by decide),by decide,by simp,sm (by show 4<=30;decide),sm (by decide),sm (by decide),sm (by decide),sm (by decide),sm (by decide),sm (by decide),sm (by decide),sm (by decide),sm (by decide),by decide,?_⟩
 refine yf (by omega) (by show c%12<12;omega) ?_
 have r:=λi=>Ga i;intro p hp;simp only[ZaB,Za0,or_false] at hp;rcases hp with rfl|rfl|rfl|rfl|rfl|rfl|rfl|rfl|rfl|rfl|rfl|rfl
 ·exact rZ rfl
 ·exact rZ rfl
 ·exact rZ rfl
 ·exact KY (by simp)
 ·exact KY (by simp)
 ·exact Oh (by decide +kernel)
 ·exact RN rfl
 ·exact ye (KR _) (r _) (r _) rfl
 ·exact ye (r _) (KR _) (r _) rfl
 ·exact ye (r _) (Od _) (r _) rfl
 ·exact ye Oe (r _) (r _) rfl
 ·exact rZ rfl
theorem ik:dY (Str.ofString "one")=true/\dY (Str.ofString "two")=true/\dY (Str.ofString "three")=true:=by decide +kernel
structure Wd(w h:Int)(W:List (Key×PV)):Prop where
 one:∀ z∈[Str.ofString "one",Str.ofString "two",Str.ofString "three"],∃ a:Nat,fK W (.inr z)=some (.int a)/\a<=iw w h
 no:fK W (.inr "four")=none
 flat:(W.all λkv=>kv.2.flat)=true
theorem gA{k:Key}{a:Int}:∀ {W:List (Key×PV)},(W.all λkv=>kv.2.flat)=true->((dG W k (.int a)).all λkv=>kv.2.flat)=true
 |[],_=>rfl
 |(j,q)::l,h=>by
  rw[Zby,ZaZ] at h;unfold dG;have ih:=gA (k:=k) (a:=a) h.2;split
  ·rw[Zby];split
   ·rw[ih];rfl
   ·rw[h.2];rfl
  ·rw[Zby,h.1,ih];rfl
theorem Wd.put{w h:Int}{W:List (Key×PV)}(H:Wd w h W){z:Str}(hz:z∈[Str.ofString "one",Str.ofString "two",Str.ofString "three"]){a:Nat}(ha:a<=iw w h):Wd w h (dG W (.inr z) (.int a)):=by
 refine⟨λy hy=>?_,?_,gA H.flat⟩
 ·rw[di];split
  ·exact⟨a,rfl,ha⟩
  ·exact H.one y hy
 ·rw[di,Zaf,H.no];intro e;cases e;revert hz
  decide +kernel
theorem yj{ns:List Int}{b:PV}{w h:Int}{sts:List PV}{W P:List (Key×PV)}{z:Str}{v4 v7 v8 v9 v10 v11 v12 v13 v14 v15:Option Sl}(sz:Sz w h)(hz:dY z=true)(hv:fK W (.inr z)=none)(hf:(W.all λkv=>kv.2.flat)=true)(hl:W.length<=900) :
  To (xX [some (.sh (.lst (ns.map .int))),some (.sh b),some (.sh (.tup [.int w,.int h])),some (.dp (bL b w h sts W P)),v4,some (.ow (.dk W)),some (.sh (.str z)),v7,v8,v9,v10,v11,v12,v13,v14,v15]) λo=>o=.nx [some (.sh (.lst (ns.map .int))),some (.sh b),some (.sh (.tup [.int w,.int h])),some (.dp (bL b w h sts (dG W (.inr z) (.int (iw w h:Nat))) P)),v4,some (.ow (.dk (dG W (.inr z) (.int (iw w h:Nat))))),some (.sh (.str z)),v7,v8,v9,v10,v11,v12,v13,v14,v15]:=by
 unfold xX;rw[to_seq];refine K1 rfl (by kernel_rfl) ?_
 walk_at "rd"
 refine⟨_,K4 sz hz hv hf hl,?_⟩;rw[Al sz];walk_at "rd"
 exact⟨_,by rw[xT,Zae (bJ (by omega))],rfl⟩
def nmP:PV:=.lst [.str (Str.ofString "one"),.str (Str.ofString "two"),.str (Str.ofString "three")]
section
variable{ns:List Int}{b:PV}{w h c:Int}{sts:List PV}{W:List (Key×PV)}{v7 v8 v9 v10 v12 v13 v14 v15:Option Sl}{QS:Out->Prop}{z:Str}{row g:Bool}{l f t:Int}{th:PV}
theorem La(H:Wd w h W){v6 v7 v8 v9 v10 v11 v12 v13 v14 v15:Option Sl}(hQ:∀ v15,QS (.nx [some (.sh (.lst (ns.map .int))),some (.sh b),some (.sh (.tup [.int w,.int h])),some (.dp (bL b w h sts W [])),some (.sh nmP),some (.ow (.dk W)),v6,v7,v8,v9,v10,v11,v12,v13,v14,v15])) :
  To (xZ [some (.sh (.lst (ns.map .int))),some (.sh b),some (.sh (.tup [.int w,.int h])),some (.dp (bL b w h sts W [])),some (.sh nmP),some (.ow (.dk W)),v6,v7,v8,v9,v10,v11,v12,v13,v14,v15]) QS:=by
 unfold xZ nmP;walk_at "rd"
 refine gk (λi ρ=>∃ v,ρ=[some (.sh (.lst (ns.map .int))),some (.sh b),some (.sh (.tup [.int w,.int h])),some (.dp (bL b w h sts W [])),some (.sh nmP),some (.ow (.dk W)),v6,v7,v8,v9,v10,v11,v12,v13,v14,v]) ⟨_,rfl⟩ ?_ ?_
 ·rintro i x ρ hx ⟨v,rfl⟩;obtain⟨y,hy,rfl,hw⟩:∃ y,y∈[Str.ofString "one",Str.ofString "two",Str.ofString "three"]/\x=.str y/\dY y=true:=by
   have hm:=Zao hx;simp only[ZaB,Za0,or_false] at hm;rcases hm with rfl|rfl|rfl
   ·exact⟨_,by decide,rfl,ik.1⟩
   ·exact⟨_,by decide,rfl,ik.2.1⟩
   ·exact⟨_,by decide,rfl,ik.2.2⟩
  obtain⟨a,ha,_⟩:=H.one y hy;refine Fy λQS hQ=>?_;unfold FT;walk_at "rd"
  exact⟨_,_,rfl,rfl,by kernel_rfl,_,Om hw ha,_,ha,_,KJ _ _,hQ _ ⟨_,rfl⟩⟩
 ·rintro ρ ⟨v,rfl⟩;exact hQ v
theorem PQ(sz:Sz w h)(H:Wd w h W)(hl:W.length<=800)(hz:z∈[Str.ofString "one",Str.ofString "two",Str.ofString "three",Str.ofString "four"])(h1:g=true->th=iu row l f t/\On w h row l f t)(h0:g=false->fU [.tup [.int w,.int h],th]=some (.ok (.bl false)))
  (hQ:∀ W' v6 v7 v8 v9 v10 v11 v12 v13 v14 v15,Wd w h W'->W'.length<=W.length+1->QS (.nx [some (.sh (.lst (ns.map .int))),some (.sh b),some (.sh (.tup [.int w,.int h])),some (.dp (bL b w h sts W' [])),some (.sh nmP),some (.ow (.dk W')),v6,v7,v8,v9,v10,v11,v12,v13,v14,v15])) :
  To (uJ [some (.sh (.lst (ns.map .int))),some (.sh b),some (.sh (.tup [.int w,.int h])),some (.dp (bL b w h sts W [])),some (.sh nmP),some (.ow (.dk W)),some (.sh (.str z)),v7,v8,v9,v10,some (.sh (iu row l f t)),some (.sh th),some (.sh (.bl g)),v14,v15]) QS:=by
 have nos:∀ {d:Str}{v6 v7 v8 v9 v10 v11 v12 v13 v15:Option Sl},d≠Str.ofString ""->To (mF [some (.sh (.lst (ns.map .int))),some (.sh b),some (.sh (.tup [.int w,.int h])),some (.dp (bL b w h sts W [])),some (.sh nmP),some (.ow (.dk W)),v6,v7,v8,v9,v10,v11,v12,v13,some (.sh (.str d)),v15]) QS:=λ{d} _ _ _ _ _ _ _ _ _ hd=>by
  unfold mF;walk_at "rd"
  rw[Zaf hd];exact La H λv=>hQ W _ _ _ _ _ _ _ _ _ _ H (by omega)
 have run:∀ {d:Str}{k p S':PV}{v7 v8 v9 v10 v11 v13 v15:Option Sl},dO [bL b w h sts W [],.str z,th]=some (.ok (.tup [p,S']))->dJ [p]=some (.ok k)->eO [.str d]=some (.ok k)->eqF 32 k k=some true->To (mF [some (.sh (.lst (ns.map .int))),some (.sh b),some (.sh (.tup [.int w,.int h])),some (.dp S'),some (.sh nmP),some (.ow (.dk W)),some (.sh (.str z)),v7,v8,v9,v10,v11,some (.sh th),v13,some (.sh (.str d)),v15]) QS->To (uI [some (.sh (.lst (ns.map .int))),some (.sh b),some (.sh (.tup [.int w,.int h])),some (.dp (bL b w h sts W [])),some (.sh nmP),some (.ow (.dk W)),some (.sh (.str z)),v7,v8,v9,v10,v11,some (.sh th),v13,some (.sh (.str d)),v15]) QS:=λ{d k p S'} _ _ _ _ _ _ _ e1 e2 e3 e4 q=>by
  unfold uI;walk_at "rd"
  refine⟨_,_,e1,?_⟩;rw[e2,e3];walk_at "rd"
  exact⟨_,e4,q⟩
 have kd:∀ a b c d e:Bool,eqF 32 (qW a b c d e) (qW a b c d e)=some true:=by decide +kernel
 unfold uJ;walk_at "rd"
 by_cases h4:z=Str.ofString "four"
 ·subst h4;have fin:∀ {d:Str},To (mG [some (.sh (.lst (ns.map .int))),some (.sh b),some (.sh (.tup [.int w,.int h])),some (.dp (bL b w h sts W [])),some (.sh nmP),some (.ow (.dk W)),some (.sh (.str (Str.ofString "four"))),v7,v8,v9,v10,some (.sh (iu row l f t)),some (.sh th),some (.sh (.bl g)),some (.sh (.str d)),v15]) QS:=λ{d}=>by
   unfold mG;walk_at "rd"
   unfold FP;walk_at "rd"
   exact run (Gi (by decide +kernel) (K5 (by decide +kernel) (.inr H.no))) Dm HX (kd _ _ _ _ _) (nos (by decide +kernel))
  refine sV (λ_=>?_) λ_=>fin;unfold xY;walk_at "rd"
  exact fin
 ·have hz3:z∈[Str.ofString "one",Str.ofString "two",Str.ofString "three"]:=by
   simp only[ZaB,Za0,or_false] at hz ⊢;rcases hz with h|h|h|h
   ·exact .inl h
   ·exact .inr (.inl h)
   ·exact .inr (.inr h)
   ·exact absurd h h4
  have hw:dY z=true:=by
   simp only[ZaB,Za0,or_false] at hz3;rcases hz3 with rfl|rfl|rfl
   ·exact ik.1
   ·exact ik.2.1
   ·exact ik.2.2
  obtain⟨a,ha,al⟩:=H.one z hz3;cases g with
  |false=>
   rw[Zae rfl];unfold xY;walk_at "rd"
   unfold mG;walk_at "rd"
   rw[Zaf h4];exact run (Gi (by decide +kernel) (RP hw ha (h0 rfl))) yh Am (kd _ _ _ _ _) (nos (by decide +kernel))
  |true=>
   obtain⟨rfl,o⟩:=h1 rfl;rw[Zaf (by decide)]
   unfold mG;walk_at "rd"
   rw[Zaf h4];refine run (Ov (RQ sz o hw ha H.flat (by omega))) HW K8 (kd _ _ _ _ _) ?_
   unfold mF;walk_at "rd"
   unfold FQ;walk_at "rd"
   refine⟨_,ha,?_⟩;rw[Al sz,K6 sz o];walk_at "rd"
   rw[Oq _ al];refine⟨_,by rw[xT,Zae (bJ (by omega))],?_⟩
   exact La (H.put hz3 (Zau (K7 _ _) al)) λv=>hQ _ _ _ _ _ _ _ _ _ _ _ (H.put hz3 (Zau (K7 _ _) al)) (gm _ _ _)
end
theorem RV{ns:List Int}{b:PV}{w h c:Int}{sts:List PV}{W:List (Key×PV)}{v6 v8 v9 v10 v11 v12 v13 v14 v15:Option Sl}{QS:Out->Prop}(sz:Sz w h)(H:Wd w h W)(hl:W.length<=800)
  (hQ:∀ W' v6 v7 v8 v9 v10 v11 v12 v13 v14 v15,Wd w h W'->W'.length<=W.length+1->QS (.nx [some (.sh (.lst (ns.map .int))),some (.sh b),some (.sh (.tup [.int w,.int h])),some (.dp (bL b w h sts W' [])),some (.sh nmP),some (.ow (.dk W')),v6,v7,v8,v9,v10,v11,v12,v13,v14,v15])) :
  To (uK [some (.sh (.lst (ns.map .int))),some (.sh b),some (.sh (.tup [.int w,.int h])),some (.dp (bL b w h sts W [])),some (.sh nmP),some (.ow (.dk W)),v6,some (.sh (.int c)),v8,v9,v10,v11,v12,v13,v14,v15]) QS:=by
 have len:∀ {n:Nat},n<=30->n<=sizeLine:=λh=>ZaQ (bJ (by omega))
 unfold uK;walk_at "rd"
 refine⟨len (by decide),by decide,?_⟩
 obtain⟨p,ep,z,rfl,hz⟩:=yf (L:=[PV.str (Str.ofString "one"),.str (Str.ofString "two"),.str (Str.ofString "three"),.str (Str.ofString "four")]) (i:=c%4) (Q:=λp=>∃ z,p=.str z/\z∈[Str.ofString "one",Str.ofString "two",Str.ofString "three",Str.ofString "four"]) (by omega) (by show c%4<4;omega) (by
  intro p hp;simp only[ZaB,Za0,or_false] at hp;rcases hp with rfl|rfl|rfl|rfl
  all_goals exact⟨_,rfl,by decide⟩)
 refine⟨_,ep,by decide,by decide,by decide,by decide,by decide,by decide,by decide,by decide,by decide,by decide,by decide,len (by decide),by decide,?_⟩
 obtain⟨q,eq,row,rfl⟩:=yf (L:=[PV.str (Str.ofString "row"),.str (Str.ofString "column")]) (i:=c/4%2) (Q:=λp=>∃ row,p=.str (gC row)) (by omega) (by show c/4%2<2;omega) (by
  intro p hp;simp only[ZaB,Za0,or_false] at hp;rcases hp with rfl|rfl
  ·exact⟨true,rfl⟩
  ·exact⟨false,rfl⟩)
 refine⟨_,eq,by decide,by decide,by decide,len (by decide),?_⟩
 generalize (c/4/2%5-if c/4/60%9=1 then 1 else 0)=l
 have ft:c/4/10%6-1<=c/4/10%6-1+c/4/300%3:=by omega
 generalize c/4/10%6-1+c/4/300%3=t at ft ⊢
 generalize c/4/10%6-1=f at ft ⊢
 rw[show PV.tup [.str (gC row),.int l,.int f,.int t]=iu row l f t from rfl,K9 ft];walk_at "rd"
 refine⟨by decide,by decide,by decide,sV (λ_=>?_) λ_=>?_⟩
 ·unfold FN;walk_at "rd"
  refine⟨by decide,by decide,?_⟩
  obtain⟨p,e,np⟩:=Ow (c:=c/4/56) (row:=row) (l:=l) (f:=f) (t:=t);rw[e];walk_at "rd"
  exact PQ sz H hl hz (λe=>by cases e) (λ_=>Og np) hQ
 ·refine PQ sz H hl hz (λe=>⟨rfl,?_⟩) (λe=>?_) hQ
  ·have e:=of_decide_eq_true e;exact⟨e.1,e.2.1,e.2.2.1,ft,e.2.2.2⟩
  ·rw[Gb ft,e]
theorem law_main(ns:List Int)(hn:ns.length<=63):wg [.lst (ns.map .int)]=some (.ok (.bl true)):=by
 refine bT (x:=FW (startR [.lst (ns.map .int)] 15)) (Ac λQE hE=>?_);have len:∀ {n:Nat},n<=30->n<=sizeLine:=λh=>ZaQ (bJ (by lia))
 obtain⟨n,en,n0⟩:=Ag ns 0 (by decide) (by decide)
 obtain⟨m,em,m0⟩:=Ag ns 1 (by decide) (by decide)
 obtain⟨bp,inks,_,_,eb,hl,_⟩:=Ai n n0;obtain⟨w,h,es,w0,w1,h0,h1⟩:=Dl m m0;have sz:Sz w h:=⟨w0,by lia,h0,by lia⟩
 unfold FW;walk_at "rd"
 rw[Gf];walk_at "rd"
 rw[en];walk_at "rd"
 rw[eb];walk_at "rd"
 rw[Gf];walk_at "rd"
 rw[em];walk_at "rd"
 rw[es];walk_at "rd"
 rw[Oj];walk_at "rd"
 have li:(inks.map qj).length<=4:=by rw[Zam];exact hl.2
 refine⟨len (by decide),by lia,by lia,len (by rw[ZaF];lia),?_⟩
 have st:((List.replicate (((inks.map qj).length:Int)).toNat [PV.int 0]).flatten).length<=4/\((List.replicate (((inks.map qj).length:Int)).toNat [PV.int 0]).flatten).all PV.still=true:=by
  rw[ZaF];refine⟨by simpa using hl.2,Zay.mpr λx hx=>?_⟩
  obtain⟨l,h1,h2⟩:=List.mem_flatten.mp hx;rw[(List.mem_replicate.mp h1).2] at h2;rw[List.mem_singleton.mp h2];rfl
 generalize (List.replicate (((inks.map qj).length:Int)).toNat [PV.int 0]).flatten=sts at st ⊢
 refine⟨_,Oo (Zay.mpr λx hx=>by obtain⟨k,_,rfl⟩:=ZbK.mp hx;exact Di k) st.2 (by lia) (by lia),len (by decide),?_⟩
 generalize (PV.tup [PV.str bp,PV.lst (List.map qj inks)])=b
 have q:=ik;have rest:∀ W,Wd w h W->W.length<=100->To (uL [some (.sh (.lst (ns.map .int))),some (.sh b),some (.sh (.tup [.int w,.int h])),some (.dp (bL b w h sts W [])),some (.sh nmP),some (.ow (.dk W)),some (.sh (.str (Str.ofString "three"))),none,none,none,none,none,none,none,none,none]) QE:=by
  intro W H HL;unfold uL;walk_at "rd"
  have hc:∀ i x,(o9 (ns.map PV.int) (some 2) (some 62))[i]?=some x->i<63/\∃ c,x=.int c:=λi x hx=>by
   obtain⟨ms,e,hm⟩:=N7 ns (some 2) (some 62);rw[e] at hx;have hi:=cg hx;rw[Zam] at hi;obtain⟨c,_,rfl⟩:=ZbK.mp (Zao hx);exact⟨by lia,c,rfl⟩
  refine gk (λi ρ=>∃ W v6 v7 v8 v9 v10 v11 v12 v13 v14 v15,ρ=[some (.sh (.lst (ns.map .int))),some (.sh b),some (.sh (.tup [.int w,.int h])),some (.dp (bL b w h sts W [])),some (.sh nmP),some (.ow (.dk W)),v6,v7,v8,v9,v10,v11,v12,v13,v14,v15]/\Wd w h W/\W.length<=100+i) ⟨W,_,_,_,_,_,_,_,_,_,_,rfl,H,HL⟩ ?_ ?_
  ·rintro i x ρ hx ⟨W,v6,v7,v8,v9,v10,v11,v12,v13,v14,v15,rfl,H,HL⟩;obtain⟨hi,c,rfl⟩:=hc i x hx;exact RV sz H (by lia) λW' v6 v7 v8 v9 v10 v11 v12 v13 v14 v15 H' hl'=>⟨W',v6,v7,v8,v9,v10,v11,v12,v13,v14,v15,rfl,H',by lia⟩
  ·rintro ρ ⟨W,v6,v7,v8,v9,v10,v11,v12,v13,v14,v15,rfl,H,HL⟩;unfold Af;walk_at "rd"
   exact hE _ rfl
 refine uO ?_;obtain⟨_,e,_,rfl⟩:=yj (ns:=ns) (b:=b) (sts:=sts) (W:=[]) (P:=[]) sz q.1 rfl rfl (by decide)
 refine⟨_,e,trivial,_,rfl,uO ?_⟩;obtain⟨_,e,_,rfl⟩:=yj (ns:=ns) (b:=b) (sts:=sts) (P:=[]) sz q.2.1 (by rw[di,Zaf (by decide +kernel)];rfl) (gA (a:=(iw w h:Nat)) (k:=.inr "one") (W:=[]) rfl) (Zau (gm _ _ _) (by decide))
 refine⟨_,e,trivial,_,rfl,uO ?_⟩;obtain⟨_,e,_,rfl⟩:=yj (ns:=ns) (b:=b) (sts:=sts) (P:=[]) sz q.2.2 (by rw[di,Zaf (by decide +kernel),di,Zaf (by decide +kernel)];rfl) (gA (a:=(iw w h:Nat)) (k:=.inr "two") (gA (a:=(iw w h:Nat)) (k:=.inr "one") (W:=[]) rfl)) (Zau (gm _ _ _) (Zbx (Zau (gm _ _ _) (by decide)) 1))
 refine⟨_,e,trivial,_,rfl,?_⟩;have H:Wd w h (dG (dG (dG [] (.inr "one") (.int (iw w h:Nat))) (.inr "two") (.int (iw w h:Nat))) (.inr "three") (.int (iw w h:Nat))):=by
  refine⟨λz hz=>⟨iw w h,?_,Zak _⟩,?_,gA (gA (gA rfl))⟩
  ·simp only[ZaB,Za0,or_false] at hz;rw[di,di,di];rcases hz with rfl|rfl|rfl
   ·rw[Zaf (by decide +kernel),Zaf (by decide +kernel),Zae rfl]
   ·rw[Zaf (by decide +kernel),Zae rfl]
   ·rw[Zae rfl]
  ·rw[di,Zaf (by decide +kernel),di,Zaf (by decide +kernel),di,Zaf (by decide +kernel)];rfl
 have HL:(dG (dG (dG ([]:List (Key×PV)) (.inr "one") (.int (iw w h:Nat))) (.inr "two") (.int (iw w h:Nat))) (.inr "three") (.int (iw w h:Nat))).length<=100:=Zau (gm _ _ _) (Zbx (Zau (gm _ _ _) (Zbx (Zau (gm _ _ _) (show 0+1<=98 by decide)) 1)) 1)
 exact⟨.nx _,rfl,trivial,rest _ H HL⟩
def top(i:Nat):Stmt:=PySem.Challenge.pw_lostblock_k54_cut_in_a_shop.main.body.getD i (.Pass ⟨0,0,0,0⟩)
structure Txt(mg:Str->Option Value):Prop where
 tt:True
 yD:mg "ValueError"=none
 Qa:mg "all"=none
 RZ:mg "bool"=none
 Qc:mg "int"=none
 bK:mg "isinstance"=none
 Bd:mg "len"=none
 yE:mg "list"=none
 jf:mg "range"=none
 Qd:mg "str"=none
 Gj:mg "tuple"=none
 Lf:∃ t,mg "COLUMN"=some (.str "column" t)
 Iu:∃ t,mg "LETTERS"=some (.str "abcdefghijklmnopqrstuvwxyz" t)
 uU:∃ t,mg "LONGEST_WORD"=some (.int 8 t)
 Gk:∃ t,mg "ROW"=some (.str "row" t)
structure Ads where
 (x_NoName x_Twice x_Shop x_NoStroke x_Wrong x_Order x_BlockError:Addr)
structure Xt(K:PySem.W.Frag)(mg:Str->Option Value)(d:Ads):Prop where
 u_NoName:qP K mg "NoName" d.x_NoName
 u_Twice:qP K mg "Twice" d.x_Twice
 u_NoStroke:qP K mg "NoStroke" d.x_NoStroke
 o_Shop:OC K "Shop" d.x_Shop
 nm_Shop:XNm K d.x_Shop "Shop"
 na_Shop_bench:eX K d.x_Shop "bench"
 na_Shop_size:eX K d.x_Shop "size"
 na_Shop_states:eX K d.x_Shop "states"
 na_Shop_woods:eX K d.x_Shop "woods"
 na_Shop_prints:eX K d.x_Shop "prints"
 n_NoName:nsIn K mainGlobals "NoName"=some (some (.ref d.x_NoName))
 g_NoName:mg "NoName"=some (.ref d.x_NoName)
 n_Twice:nsIn K mainGlobals "Twice"=some (some (.ref d.x_Twice))
 g_Twice:mg "Twice"=some (.ref d.x_Twice)
 n_Shop:nsIn K mainGlobals "Shop"=some (some (.ref d.x_Shop))
 g_Shop:mg "Shop"=some (.ref d.x_Shop)
 n_NoStroke:nsIn K mainGlobals "NoStroke"=some (some (.ref d.x_NoStroke))
 g_NoStroke:mg "NoStroke"=some (.ref d.x_NoStroke)
 n_Wrong:nsIn K mainGlobals "Wrong"=some (some (.ref d.x_Wrong))
 g_Wrong:mg "Wrong"=some (.ref d.x_Wrong)
 n_Order:nsIn K mainGlobals "Order"=some (some (.ref d.x_Order))
 g_Order:mg "Order"=some (.ref d.x_Order)
 n_BlockError:nsIn K mainGlobals "BlockError"=some (some (.ref d.x_BlockError))
 g_BlockError:mg "BlockError"=some (.ref d.x_BlockError)
 ca_BlockError:Catch K d.x_BlockError
 s_NoName_BlockError:PySem.W.subIn K (.ref d.x_NoName) (.ref d.x_BlockError)=some true
 s_Twice_BlockError:PySem.W.subIn K (.ref d.x_Twice) (.ref d.x_BlockError)=some true
 s_NoStroke_BlockError:PySem.W.subIn K (.ref d.x_NoStroke) (.ref d.x_BlockError)=some true
 no_BlockError:PySem.W.kitOne K (.type "NoneType") (.ref d.x_BlockError)=some false
 k_NoName_BlockError:PySem.W.kitOne K (.ref d.x_NoName) (.ref d.x_BlockError)=some true
 k_Twice_BlockError:PySem.W.kitOne K (.ref d.x_Twice) (.ref d.x_BlockError)=some true
 k_NoStroke_BlockError:PySem.W.kitOne K (.ref d.x_NoStroke) (.ref d.x_BlockError)=some true
 no_NoName:PySem.W.kitOne K (.type "NoneType") (.ref d.x_NoName)=some false
 k_NoName_NoName:PySem.W.kitOne K (.ref d.x_NoName) (.ref d.x_NoName)=some true
 k_Twice_NoName:PySem.W.kitOne K (.ref d.x_Twice) (.ref d.x_NoName)=some false
 k_NoStroke_NoName:PySem.W.kitOne K (.ref d.x_NoStroke) (.ref d.x_NoName)=some false
 no_NoStroke:PySem.W.kitOne K (.type "NoneType") (.ref d.x_NoStroke)=some false
 k_NoName_NoStroke:PySem.W.kitOne K (.ref d.x_NoName) (.ref d.x_NoStroke)=some false
 k_Twice_NoStroke:PySem.W.kitOne K (.ref d.x_Twice) (.ref d.x_NoStroke)=some false
 k_NoStroke_NoStroke:PySem.W.kitOne K (.ref d.x_NoStroke) (.ref d.x_NoStroke)=some true
 no_Order:PySem.W.kitOne K (.type "NoneType") (.ref d.x_Order)=some false
 k_NoName_Order:PySem.W.kitOne K (.ref d.x_NoName) (.ref d.x_Order)=some false
 k_Twice_Order:PySem.W.kitOne K (.ref d.x_Twice) (.ref d.x_Order)=some false
 k_NoStroke_Order:PySem.W.kitOne K (.ref d.x_NoStroke) (.ref d.x_Order)=some false
 no_Twice:PySem.W.kitOne K (.type "NoneType") (.ref d.x_Twice)=some false
 k_NoName_Twice:PySem.W.kitOne K (.ref d.x_NoName) (.ref d.x_Twice)=some false
 k_Twice_Twice:PySem.W.kitOne K (.ref d.x_Twice) (.ref d.x_Twice)=some true
 k_NoStroke_Twice:PySem.W.kitOne K (.ref d.x_NoStroke) (.ref d.x_Twice)=some false
 no_Wrong:PySem.W.kitOne K (.type "NoneType") (.ref d.x_Wrong)=some false
 k_NoName_Wrong:PySem.W.kitOne K (.ref d.x_NoName) (.ref d.x_Wrong)=some false
 k_Twice_Wrong:PySem.W.kitOne K (.ref d.x_Twice) (.ref d.x_Wrong)=some false
 k_NoStroke_Wrong:PySem.W.kitOne K (.ref d.x_NoStroke) (.ref d.x_Wrong)=some false
 nob_ValueError:PySem.W.kitOne K (.type "NoneType") (.type "ValueError")=some false
 kb_NoName_ValueError:PySem.W.kitOne K (.ref d.x_NoName) (.type "ValueError")=some true
 kb_Twice_ValueError:PySem.W.kitOne K (.ref d.x_Twice) (.type "ValueError")=some true
 kb_NoStroke_ValueError:PySem.W.kitOne K (.ref d.x_NoStroke) (.type "ValueError")=some true
section
seal PE PA PS PSs PG PGs PI PPs MJ MT MA MAL MO MS MG MGs MI
variable{P:Program}{w:World}{K:PySem.W.Frag}{mg:Str->Option Value}{base:Heap}
theorem qm{d:Ads}(Z:Xt K mg d):∀ c b,fX c=some b->PJ K c "BlockError" b:=by
 intro c b h;unfold fX at h;by_cases h_NoName:c="NoName"
 ·subst h_NoName;rw[Zae rfl] at h;cases h;exact⟨_,_,Z.n_NoName,Z.n_BlockError,Z.s_NoName_BlockError⟩
 rw[Zaf h_NoName] at h;by_cases h_Twice:c="Twice"
 ·subst h_Twice;rw[Zae rfl] at h;cases h;exact⟨_,_,Z.n_Twice,Z.n_BlockError,Z.s_Twice_BlockError⟩
 rw[Zaf h_Twice] at h;by_cases h_NoStroke:c="NoStroke"
 ·subst h_NoStroke;rw[Zae rfl] at h;cases h;exact⟨_,_,Z.n_NoStroke,Z.n_BlockError,Z.s_NoStroke_BlockError⟩
 rw[Zaf h_NoStroke] at h;cases h
theorem qp{d:Ads}(Z:Xt K mg d):∀ c b,jk c=some b->zR K c (.ref d.x_BlockError) b:=by
 intro c b h;unfold jk at h;by_cases h_NoName:c="NoName"
 ·subst h_NoName;rw[Zae rfl] at h;cases h;exact⟨_,Z.n_NoName,Z.u_NoName.xi,Z.k_NoName_BlockError⟩
 rw[Zaf h_NoName] at h;by_cases h_Twice:c="Twice"
 ·subst h_Twice;rw[Zae rfl] at h;cases h;exact⟨_,Z.n_Twice,Z.u_Twice.xi,Z.k_Twice_BlockError⟩
 rw[Zaf h_Twice] at h;by_cases h_NoStroke:c="NoStroke"
 ·subst h_NoStroke;rw[Zae rfl] at h;cases h;exact⟨_,Z.n_NoStroke,Z.u_NoStroke.xi,Z.k_NoStroke_BlockError⟩
 rw[Zaf h_NoStroke] at h;cases h
theorem yl{d:Ads}(Z:Xt K mg d):∀ c b,qe c=some b->zR K c (.ref d.x_NoName) b:=by
 intro c b h;unfold qe at h;by_cases h_NoName:c="NoName"
 ·subst h_NoName;rw[Zae rfl] at h;cases h;exact⟨_,Z.n_NoName,Z.u_NoName.xi,Z.k_NoName_NoName⟩
 rw[Zaf h_NoName] at h;by_cases h_Twice:c="Twice"
 ·subst h_Twice;rw[Zae rfl] at h;cases h;exact⟨_,Z.n_Twice,Z.u_Twice.xi,Z.k_Twice_NoName⟩
 rw[Zaf h_Twice] at h;by_cases h_NoStroke:c="NoStroke"
 ·subst h_NoStroke;rw[Zae rfl] at h;cases h;exact⟨_,Z.n_NoStroke,Z.u_NoStroke.xi,Z.k_NoStroke_NoName⟩
 rw[Zaf h_NoStroke] at h;cases h
theorem uQ{d:Ads}(Z:Xt K mg d):∀ c b,lV c=some b->zR K c (.ref d.x_NoStroke) b:=by
 intro c b h;unfold lV at h;by_cases h_NoName:c="NoName"
 ·subst h_NoName;rw[Zae rfl] at h;cases h;exact⟨_,Z.n_NoName,Z.u_NoName.xi,Z.k_NoName_NoStroke⟩
 rw[Zaf h_NoName] at h;by_cases h_Twice:c="Twice"
 ·subst h_Twice;rw[Zae rfl] at h;cases h;exact⟨_,Z.n_Twice,Z.u_Twice.xi,Z.k_Twice_NoStroke⟩
 rw[Zaf h_Twice] at h;by_cases h_NoStroke:c="NoStroke"
 ·subst h_NoStroke;rw[Zae rfl] at h;cases h;exact⟨_,Z.n_NoStroke,Z.u_NoStroke.xi,Z.k_NoStroke_NoStroke⟩
 rw[Zaf h_NoStroke] at h;cases h
theorem Ao{d:Ads}(Z:Xt K mg d):∀ c b,uB c=some b->zR K c (.ref d.x_Order) b:=by
 intro c b h;unfold uB at h;by_cases h_NoName:c="NoName"
 ·subst h_NoName;rw[Zae rfl] at h;cases h;exact⟨_,Z.n_NoName,Z.u_NoName.xi,Z.k_NoName_Order⟩
 rw[Zaf h_NoName] at h;by_cases h_Twice:c="Twice"
 ·subst h_Twice;rw[Zae rfl] at h;cases h;exact⟨_,Z.n_Twice,Z.u_Twice.xi,Z.k_Twice_Order⟩
 rw[Zaf h_Twice] at h;by_cases h_NoStroke:c="NoStroke"
 ·subst h_NoStroke;rw[Zae rfl] at h;cases h;exact⟨_,Z.n_NoStroke,Z.u_NoStroke.xi,Z.k_NoStroke_Order⟩
 rw[Zaf h_NoStroke] at h;cases h
theorem Aq{d:Ads}(Z:Xt K mg d):∀ c b,uC c=some b->zR K c (.ref d.x_Twice) b:=by
 intro c b h;unfold uC at h;by_cases h_NoName:c="NoName"
 ·subst h_NoName;rw[Zae rfl] at h;cases h;exact⟨_,Z.n_NoName,Z.u_NoName.xi,Z.k_NoName_Twice⟩
 rw[Zaf h_NoName] at h;by_cases h_Twice:c="Twice"
 ·subst h_Twice;rw[Zae rfl] at h;cases h;exact⟨_,Z.n_Twice,Z.u_Twice.xi,Z.k_Twice_Twice⟩
 rw[Zaf h_Twice] at h;by_cases h_NoStroke:c="NoStroke"
 ·subst h_NoStroke;rw[Zae rfl] at h;cases h;exact⟨_,Z.n_NoStroke,Z.u_NoStroke.xi,Z.k_NoStroke_Twice⟩
 rw[Zaf h_NoStroke] at h;cases h
theorem Ar{d:Ads}(Z:Xt K mg d):∀ c b,uD c=some b->zR K c (.ref d.x_Wrong) b:=by
 intro c b h;unfold uD at h;by_cases h_NoName:c="NoName"
 ·subst h_NoName;rw[Zae rfl] at h;cases h;exact⟨_,Z.n_NoName,Z.u_NoName.xi,Z.k_NoName_Wrong⟩
 rw[Zaf h_NoName] at h;by_cases h_Twice:c="Twice"
 ·subst h_Twice;rw[Zae rfl] at h;cases h;exact⟨_,Z.n_Twice,Z.u_Twice.xi,Z.k_Twice_Wrong⟩
 rw[Zaf h_Twice] at h;by_cases h_NoStroke:c="NoStroke"
 ·subst h_NoStroke;rw[Zae rfl] at h;cases h;exact⟨_,Z.n_NoStroke,Z.u_NoStroke.xi,Z.k_NoStroke_Wrong⟩
 rw[Zaf h_NoStroke] at h;cases h
theorem qt{d:Ads}(Z:Xt K mg d):∀ c b,jm c=some b->zR K c (.type "ValueError") b:=by
 intro c b h;unfold jm at h;by_cases h_NoName:c="NoName"
 ·subst h_NoName;rw[Zae rfl] at h;cases h;exact⟨_,Z.n_NoName,Z.u_NoName.xi,Z.kb_NoName_ValueError⟩
 rw[Zaf h_NoName] at h;by_cases h_Twice:c="Twice"
 ·subst h_Twice;rw[Zae rfl] at h;cases h;exact⟨_,Z.n_Twice,Z.u_Twice.xi,Z.kb_Twice_ValueError⟩
 rw[Zaf h_Twice] at h;by_cases h_NoStroke:c="NoStroke"
 ·subst h_NoStroke;rw[Zae rfl] at h;cases h;exact⟨_,Z.n_NoStroke,Z.u_NoStroke.xi,Z.kb_NoStroke_ValueError⟩
 rw[Zaf h_NoStroke] at h;cases h
theorem ym{d:Ads}(Z:Xt K mg d):∀ c,qg c=true->∃ Ca,nsIn K mainGlobals c=some (some (.ref Ca))/\XI K Ca/\PySem.W.findIn K (.ref Ca) "column"=some none:=by
 intro c h;unfold qg at h;simp_all
theorem HY{d:Ads}(Z:Xt K mg d):∀ c,Dg c=true->∃ Ca,nsIn K mainGlobals c=some (some (.ref Ca))/\XI K Ca/\PySem.W.findIn K (.ref Ca) "row"=some none:=by
 intro c h;unfold Dg at h;simp_all
theorem Dn:bf ["text"] ["text"] (aB (top 11)):=by walk_at "s"
theorem Do(T:Txt mg)(D:bw K mg "is_word" (top 11) ["text"]){d:Ads}(Z:Xt K mg d):FnAt P w K mg base "is_word" 1 ["text"] (spM K XR0 gM):=by
 refine D.ok Dn (λvs H Q E h=>b7 h λps r e=>match ps,e with|[_],_=>rfl) (λf cdv A outer s H vs Q E hr h=>?_)
 refine⟨_,(aC (dU (PW.pt (DQ (jJ (jH (bO lE rfl T.bK (by decide +kernel) (aj (pv 0) (aj (vM rfl T.Qd (n:="str") (by decide +kernel)) az))))) (wF (jJ (Jd lB lB au (bO lr rfl T.Bd (by decide +kernel) (aj (pv 0) az)) (S6 rfl T.uU))))))
    (aK (bG fY))
    bY)
   (aK (bG (bO (yV rfl) rfl T.Qa (by decide +kernel) (aj (oR ["sign"] [none] rfl (jQ (pv 0)) (λ_ _ _ _ _=>(lu (i:=0) (by decide +kernel) rfl rfl)) (λ_ _ _ _ _=>sW) (λ_ _ _ _ _=>(mK (M5 hr) (pvl 0) (vL (glc rfl) T.Iu) (by with_unfolding_all rfl)))) az))))),cJ (b:=m9) (k:=1) (n:=0) rfl (λps r e=>match ps,e with|[_],e=>⟨rfl,e⟩) h λio H0 F0 hio=>?_⟩
 exact(aO (fu (Ej (jP (jO (tV aH.up JW (bQ 0) zf))) (jP (cI (tD zx zx aq (jT zy (bQ 0)) aq))))
    (bV gb)
    cj)
   (bV (jT Pg (gF (pA (jR (ao 0)) (aN 0) (ph 0) tU (aG aH.up Uj (bQ 0) (cz bC)))))))
theorem Av:bf ["thing"] ["thing"] (aB (top 13)):=by walk_at "s"
theorem Aw(T:Txt mg)(D:bw K mg "is_whole" (top 13) ["thing"]){d:Ads}(Z:Xt K mg d):FnAt P w K mg base "is_whole" 1 ["thing"] (spM K XR0 cR):=by
 refine D.ok Av (λvs H Q E h=>b7 h λps r e=>match ps,e with|[_],_=>rfl) (λf cdv A outer s H vs Q E hr h=>?_)
 refine⟨_,(aK (bG (pO (bO lE rfl T.bK (by decide +kernel) (aj (pv 0) (aj (vM rfl T.Qc (n:="int") (by decide +kernel)) az))) (sG (Qk (bO lE rfl T.bK (by decide +kernel) (aj (pv 0) (aj (vM rfl T.RZ (n:="bool") (by decide +kernel)) az)))))))),cJ (b:=cQ) (k:=1) (n:=0) rfl (λps r e=>match ps,e with|[_],e=>⟨rfl,e⟩) h λio H0 F0 hio=>?_⟩
 exact(bV (pY (tV aH.up JW (bQ 0) zf) (QX (tV aH.up JW (bQ 0) zf))))
theorem Ax:bf ["size","cell"] ["size","cell"] (aB (top 14)):=by walk_at "s"
theorem Ay(T:Txt mg)(D:bw K mg "place_of" (top 14) ["size","cell"]){d:Ads}(Z:Xt K mg d):FnAt P w K mg base "place_of" 1 ["size","cell"] (spM K XR0 j5):=by
 refine D.ok Ax (λvs H Q E h=>b7 h λps r e=>match ps,e with|[_,_],_=>rfl) (λf cdv A outer s H vs Q E hr h=>?_)
 refine⟨_,(aK (bG (aR bZ (aR o7 (bj aU (pv 1) au (λ_ _=>rfl)) (bj aU (pv 0) au (λ_ _=>rfl))) (bj aU (pv 1) au (λ_ _=>rfl))))),cJ (b:=oF) (k:=2) (n:=0) rfl (λps r e=>match ps,e with|[_,_],e=>⟨rfl,e⟩) h λio H0 F0 hio=>?_⟩
 exact(bV (aG aF.up dW (aG aF.up zu (aG aF.up b8 (ao 1) aq) (aG aF.up b8 (ao 0) aq)) (aG aF.up b8 (ao 1) aq)))
theorem Ia:bf ["size"] ["size"] (aB (top 15)):=by walk_at "s"
theorem Ib(T:Txt mg)(D:bw K mg "all_of" (top 15) ["size"]){d:Ads}(Z:Xt K mg d):FnAt P w K mg base "all_of" 1 ["size"] (spM K XR0 pI):=by
 refine D.ok Ia (λvs H Q E h=>b7 h λps r e=>match ps,e with|[_],_=>rfl) (λf cdv A outer s H vs Q E hr h=>?_)
 refine⟨_,(aK (bG (aR Bv (aR wH au (aR o7 (bj aU (pv 0) au (λ_ _=>rfl)) (bj aU (pv 0) au (λ_ _=>rfl)))) au))),cJ (b:=pH) (k:=1) (n:=0) rfl (λps r e=>match ps,e with|[_],e=>⟨rfl,e⟩) h λio H0 F0 hio=>?_⟩
 exact(bV (aG aF.up JM (aG aF.up En aq (aG aF.up zu (aG aF.up b8 (ao 0) aq) (aG aF.up b8 (ao 0) aq))) aq))
theorem ni:bf ["size","cells","some","cell"] ["size","cells"] (aB (top 16)):=by walk_at "s"
theorem Ie(T:Txt mg)(D:bw K mg "set_of" (top 16) ["size","cells"]){d:Ads}(Z:Xt K mg d)(Du:FnAt P w K mg base "place_of" 1 ["size","cell"] (spM K XR0 j5)):FnAt P w K mg base "set_of" 2 ["size","cells"] (spM K XR0 pJ):=by
 refine D.ok ni (λvs H Q E h=>b7 h λps r e=>match ps,e with|[_,_],_=>rfl) (λf cdv A outer s H vs Q E hr h=>?_)
 refine⟨_,(aC (aZ (i:=2) ni.nd rfl (Or.inl rfl) au)
   (aC (jM ZaT rfl (jQ (pv 1)) (fV (i:=3) ni.nd rfl (Or.inl rfl))
    (aK (aZ (i:=2) ni.nd rfl (Or.inl rfl) (aR Jc (pv 2) (aR wH au (aQ Du (hr.mono (by decide)) rfl (aj (pv 0) (aj (pv 3) az))))))))
   (aK (bG (pv 2))))),cJ (b:=uG) (k:=2) (n:=2) rfl (λps r e=>match ps,e with|[_,_],e=>⟨rfl,e⟩) h λio H0 F0 hio=>?_⟩
 exact(aO (bD aq (aN 2))
   (aO (oh (jR (ao 1)) (aN 3)
    (bD (aG aF.up Q9 (ao 2) (aG aF.up En aq (cM (ak (ao 0) (ak (ao 3) aJ))))) (aN 2)))
   (bV (ao 2))))
theorem yo:bf ["thing"] ["thing"] (aB (top 20)):=by walk_at "s"
theorem yp(T:Txt mg)(D:bw K mg "is_stroke" (top 20) ["thing"]){d:Ads}(Z:Xt K mg d)(Dv:FnAt P w K mg base "is_whole" 1 ["thing"] (spM K XR0 cR)):FnAt P w K mg base "is_stroke" 2 ["thing"] (spM K XR0 eQ):=by
 refine D.ok yo (λvs H Q E h=>b7 h λps r e=>match ps,e with|[_],_=>rfl) (λf cdv A outer s H vs Q E hr h=>?_)
 refine⟨_,(aC (dU (PW.pt (DQ (jJ (jH (bO lE rfl T.bK (by decide +kernel) (aj (pv 0) (aj (vM rfl T.Gj (n:="tuple") (by decide +kernel)) az))))) (wF (cG (Ck hr) (bO lr rfl T.Bd (by decide +kernel) (aj (pv 0) az)) au (cW _)))))
    (aK (bG fY))
    bY)
   (aC (dU (PW.pt (DQ (jJ (jH (bO lE rfl T.bK (by decide +kernel) (aj (bj aU (pv 0) au (λ_ _=>rfl)) (aj (vM rfl T.Qd (n:="str") (by decide +kernel)) az))))) (wF (cG (Hb hr) (bj aU (pv 0) au (λ_ _=>rfl)) (dz (aj (vL rfl T.Gk) (aj (vL rfl T.Lf) az))) (by with_unfolding_all rfl)))))
    (aK (bG fY))
    bY)
   (aK (bG (pO (bO (yV rfl) rfl T.Qa (by decide +kernel) (aj (oR ["number"] [none] rfl (jQ (gR wM (pv 0) (iz au) mL)) (λ_ _ _ _ _=>(lu (i:=0) (by decide +kernel) rfl rfl)) (λ_ _ _ _ _=>sW) (λ_ _ _ _ _=>(aQ Dv (hr.mono (by decide)) (glc rfl) (aj (pvl 0) az)))) az)) (sG (mK lB (bj aU (pv 0) au (λ_ _=>rfl)) (bj aU (pv 0) au (λ_ _=>rfl)) (cW _)))))))),cJ (b:=bI) (k:=1) (n:=0) rfl (λps r e=>match ps,e with|[_],e=>⟨rfl,e⟩) h λio H0 F0 hio=>?_⟩
 exact(aO (fu (Ej (jP (jO (tV aH.up JW (bQ 0) zf))) (cI (aG aH.up Ra (cz (jT zy (bQ 0))) (cz aq))))
    (bV gb)
    cj)
   (aO (fu (Ej (jP (jO (tV aH.up JW (cz (aG aF.up b8 (ao 0) aq)) zf))) (cI (aG aH.up My (cz (aG aF.up b8 (ao 0) aq)) (cz (fQ (ak bC (ak bC aJ)))))))
    (bV gb)
    cj)
   (bV (pY (jT Pg (gF (pA (jR (xj (ao 0) (iB aq) mU)) (aN 0) (ph 0) tU (cM (ak (ao 0) aJ))))) (aG aF.up zx (aG aF.up b8 (ao 0) aq) (aG aF.up b8 (ao 0) aq))))))
theorem Az:bf ["size","kind"] ["size","kind"] (aB (top 21)):=by walk_at "s"
theorem Ba(T:Txt mg)(D:bw K mg "lines_of" (top 21) ["size","kind"]){d:Ads}(Z:Xt K mg d):FnAt P w K mg base "lines_of" 1 ["size","kind"] (spM K XR0 j7):=by
 refine D.ok Az (λvs H Q E h=>b7 h λps r e=>match ps,e with|[_,_],_=>rfl) (λf cdv A outer s H vs Q E hr h=>?_)
 refine⟨_,(aK (bG (yM (cG (gW hr) (pv 1) (vL rfl T.Gk) (cW _)) (bj aU (pv 0) au (λ_ _=>rfl)) (bj aU (pv 0) au (λ_ _=>rfl))))),cJ (b:=j6) (k:=2) (n:=0) rfl (λps r e=>match ps,e with|[_,_],e=>⟨rfl,e⟩) h λio H0 F0 hio=>?_⟩
 exact(bV (O5 (cI (aG aH.up tO (bQ 1) (cz bC))) (aG aF.up b8 (ao 0) aq) (aG aF.up b8 (ao 0) aq)))
theorem yq:bf ["size","kind"] ["size","kind"] (aB (top 22)):=by walk_at "s"
theorem yr(T:Txt mg)(D:bw K mg "length_of" (top 22) ["size","kind"]){d:Ads}(Z:Xt K mg d):FnAt P w K mg base "length_of" 1 ["size","kind"] (spM K XR0 iI):=by
 refine D.ok yq (λvs H Q E h=>b7 h λps r e=>match ps,e with|[_,_],_=>rfl) (λf cdv A outer s H vs Q E hr h=>?_)
 refine⟨_,(aK (bG (yM (cG (gW hr) (pv 1) (vL rfl T.Gk) (cW _)) (bj aU (pv 0) au (λ_ _=>rfl)) (bj aU (pv 0) au (λ_ _=>rfl))))),cJ (b:=iH) (k:=2) (n:=0) rfl (λps r e=>match ps,e with|[_,_],e=>⟨rfl,e⟩) h λio H0 F0 hio=>?_⟩
 exact(bV (O5 (cI (aG aH.up tO (bQ 1) (cz bC))) (aG aF.up b8 (ao 0) aq) (aG aF.up b8 (ao 0) aq)))
theorem Dq:bf ["size","thing"] ["size","thing"] (aB (top 23)):=by walk_at "s"
theorem Dr(T:Txt mg)(D:bw K mg "lies_on" (top 23) ["size","thing"]){d:Ads}(Z:Xt K mg d)(Be:FnAt P w K mg base "is_stroke" 2 ["thing"] (spM K XR0 eQ))(Dw:FnAt P w K mg base "lines_of" 1 ["size","kind"] (spM K XR0 j7))(Bf:FnAt P w K mg base "length_of" 1 ["size","kind"] (spM K XR0 iI)):FnAt P w K mg base "lies_on" 3 ["size","thing"] (spM K XR0 fU):=by
 refine D.ok Dq (λvs H Q E h=>b7 h λps r e=>match ps,e with|[_,_],_=>rfl) (λf cdv A outer s H vs Q E hr h=>?_)
 refine⟨_,(aC (dU (jJ (jH (aQ Be (hr.mono (by decide)) rfl (aj (pv 1) az))))
    (aK (bG fY))
    bY)
   (aK (bG (pO (yQ lB pZ au (bj aU (pv 1) au (λ_ _=>rfl)) (aQ Dw (hr.mono (by decide)) rfl (aj (pv 0) (aj (bj aU (pv 1) au (λ_ _=>rfl)) az)))) (pO (mK lB au (bj aU (pv 1) au (λ_ _=>rfl)) (cW _)) (sG (mK pZ (bj aU (pv 1) au (λ_ _=>rfl)) (aQ Bf (hr.mono (by decide)) rfl (aj (pv 0) (aj (bj aU (pv 1) au (λ_ _=>rfl)) az))) (cW _)))))))),cJ (b:=gO) (k:=2) (n:=0) rfl (λps r e=>match ps,e with|[_,_],e=>⟨rfl,e⟩) h λio H0 F0 hio=>?_⟩
 exact(aO (fu (jP (jO (cM (ak (ao 1) aJ))))
    (bV gb)
    cj)
   (bV (pY (tD zx Hg aq (aG aF.up b8 (ao 1) aq) (cM (ak (ao 0) (ak (aG aF.up b8 (ao 1) aq) aJ)))) (pY (aG aF.up zx aq (aG aF.up b8 (ao 1) aq)) (aG aF.up Hg (aG aF.up b8 (ao 1) aq) (cM (ak (ao 0) (ak (aG aF.up b8 (ao 1) aq) aJ))))))))
theorem rE:bf ["stroke"] ["stroke"] (aB (top 24)):=by walk_at "s"
theorem rF(T:Txt mg)(D:bw K mg "stroke_cells" (top 24) ["stroke"]){d:Ads}(Z:Xt K mg d):FnAt P w K mg base "stroke_cells" 1 ["stroke"] (spO K XR0 fC):=by
 refine D.ok rE (λvs H Q E h=>Eu h λps r e=>match ps,e with|[_],_=>rfl) (λf cdv A outer s H vs Q E hr h=>?_)
 refine⟨_,(aC (dU (cG (gW hr) (bj aU (pv 0) au (λ_ _=>rfl)) (vL rfl T.Gk) (cW _))
    (aK (bG (oR ["column","stroke"] [none,some 0] rfl (pP rfl T.jf (aj (bj aU (pv 0) au (λ_ _=>rfl)) (aj (aR bZ (bj aU (pv 0) au (λ_ _=>rfl)) au) az))) (λ_ _ _ _ _=>(lu (i:=0) (by decide +kernel) rfl rfl)) (λ_ _ _ _ _=>sW) (λ_ _ _ _ _=>(dz (aj (pvl 0) (aj (bj Ew (pvf 1) au (λ_ _=>rfl)) az)))))))
    bY)
   (aK (bG (oR ["row","stroke"] [none,some 0] rfl (pP rfl T.jf (aj (bj aU (pv 0) au (λ_ _=>rfl)) (aj (aR bZ (bj aU (pv 0) au (λ_ _=>rfl)) au) az))) (λ_ _ _ _ _=>(lu (i:=0) (by decide +kernel) rfl rfl)) (λ_ _ _ _ _=>sW) (λ_ _ _ _ _=>(dz (aj (bj Ew (pvf 1) au (λ_ _=>rfl)) (aj (pvl 0) az)))))))),Et (b:=fB) (k:=1) (n:=0) rfl (λps r e=>match ps,e with|[_],e=>⟨rfl,e⟩) h λio H0 F0 hio=>?_⟩
 exact(aO (fu (cI (aG aH.up tO (cz (aG aF.up b8 (ao 0) aq)) (cz bC)))
    (rK (pA (xq (ak (aG aF.up b8 (ao 0) aq) (ak (aG aF.up dW (aG aF.up b8 (ao 0) aq) aq) aJ))) (aN 0) (ph 0) tU (fQ (ak (ao 0) (ak (aG aF.up b8 (ao 1) aq) aJ)))))
    cj)
   (rK (pA (xq (ak (aG aF.up b8 (ao 0) aq) (ak (aG aF.up dW (aG aF.up b8 (ao 0) aq) aq) aJ))) (aN 0) (ph 0) tU (fQ (ak (aG aF.up b8 (ao 1) aq) (ak (ao 0) aJ))))))
theorem yt:bf ["size","stroke"] ["size","stroke"] (aB (top 25)):=by walk_at "s"
theorem yu(T:Txt mg)(D:bw K mg "cells_cut" (top 25) ["size","stroke"]){d:Ads}(Z:Xt K mg d)(Lg:FnAt P w K mg base "set_of" 2 ["size","cells"] (spM K XR0 pJ))(uV:FnAt P w K mg base "stroke_cells" 1 ["stroke"] (spO K XR0 fC)):FnAt P w K mg base "cells_cut" 3 ["size","stroke"] (spM K XR0 iK):=by
 refine D.ok yt (λvs H Q E h=>b7 h λps r e=>match ps,e with|[_,_],_=>rfl) (λf cdv A outer s H vs Q E hr h=>?_)
 refine⟨_,(aK (bG (aQ Lg (hr.mono (by decide)) rfl (aj (pv 0) (aj (aQ uV (hr.mono (by decide)) rfl (aj (pv 1) az)) az))))),cJ (b:=iJ) (k:=2) (n:=0) rfl (λps r e=>match ps,e with|[_,_],e=>⟨rfl,e⟩) h λio H0 F0 hio=>?_⟩
 exact(bV (cM (ak (ao 0) (ak (d9 (wX (ak (ao 1) aJ))) aJ))))
theorem yw:bf ["kept","name"] ["kept","name"] (aB (top 27)):=by walk_at "s"
theorem yx(T:Txt mg)(D:bw K mg "check_new" (top 27) ["kept","name"]){d:Ads}(Z:Xt K mg d)(qx:FnAt P w K mg base "is_word" 1 ["text"] (spM K XR0 gM)):ud P w K mg base "check_new" 3 ["kept","name"] (spM K (XRS K) iQ):=by
 refine bw.okX D yw (λvs H Q E h=>b7 h λps r e=>match ps,e with|[_,_],_=>rfl) (λf cdv A outer s H vs Q E hr h=>?_)
 refine⟨_,(aC (dU (jJ (jH (aQ qx (hr.mono (by decide)) rfl (aj (pv 1) az))))
    (aK (jZ Z.u_NoName (hr.mono (by decide)) rfl mZ))
    bY)
   (aK (dU (cG (Ro hr) (pv 1) (pv 0) (by with_unfolding_all rfl))
    (aK (jZ Z.u_Twice (hr.mono (by decide)) rfl mZ))
    bY))),xJ (b:=iM) (k:=2) (n:=0) rfl (λps r e=>match ps,e with|[_,_],e=>⟨rfl,e⟩) h λio H0 F0 hio=>?_⟩
 exact(aO (fu (jP (jO (lL (ak (ao 1) aJ))))
    (j0 rfl Z.u_NoName)
    cj)
   (fu (cI (aG aF.up Tt (ao 1) (mW 0)))
    (j0 rfl Z.u_Twice)
    cj))
theorem uR:bf ["kept","name"] ["kept","name"] (aB (top 28)):=by walk_at "s"
theorem uT(T:Txt mg)(D:bw K mg "check_there" (top 28) ["kept","name"]){d:Ads}(Z:Xt K mg d)(qx:FnAt P w K mg base "is_word" 1 ["text"] (spM K XR0 gM)):ud P w K mg base "check_there" 3 ["kept","name"] (spM K (XRS K) cU):=by
 refine bw.okX D uR (λvs H Q E h=>b7 h λps r e=>match ps,e with|[_,_],_=>rfl) (λf cdv A outer s H vs Q E hr h=>?_)
 refine⟨_,(aK (dU (PW.pt (DQ (jJ (jH (aQ qx (hr.mono (by decide)) rfl (aj (pv 1) az)))) (wF (cG (Hh hr) (pv 1) (pv 0) (by with_unfolding_all rfl)))))
    (aK (jZ Z.u_NoName (hr.mono (by decide)) rfl mZ))
    bY)),xJ (b:=dq) (k:=2) (n:=0) rfl (λps r e=>match ps,e with|[_,_],e=>⟨rfl,e⟩) h λio H0 F0 hio=>?_⟩
 exact(fu (Ej (jP (jO (lL (ak (ao 1) aJ)))) (cI (aG aF.up J0 (ao 1) (mW 0))))
    (j0 rfl Z.u_NoName)
    cj)
theorem qu:bf ["self","bench","size","states"] ["self","bench","size","states"] (aB (inClass (top 29) 0)):=by walk_at "s"
theorem qw(T:Txt mg){f:Addr}{fd:FuncData}(F:Fun K "__init__" "Shop.__init__" (inClass (top 29) 0) f fd){d:Ads}(Z:Xt K mg d):jg P w K mg base CX0 1 f fd ["self","bench","size","states"] (spW K dm):=by
 refine F.ok qu (λvs H Q E h=>rT h λps r e=>match ps,e with|[_,_,_,_],_=>rfl) (λcdv A outer s H vs Q E hr h=>?_)
 refine⟨_,(aC (pG K rfl (pv 0) (dz (aj (bj aU (pv 1) au (λ_ _=>rfl)) (aj (fP jN rfl T.yE (by decide +kernel) (aj (bj aU (pv 1) au (λ_ _=>rfl)) az)) az))) rfl)
   (aC (pG K rfl (pv 0) (pv 2) rfl)
   (aC (pG K rfl (pv 0) (fP jN rfl T.yE (by decide +kernel) (aj (pv 3) az)) rfl)
   (aC (pG K rfl (pv 0) tu rfl)
   (aK (pG K rfl (pv 0) tu rfl)))))),Ko (b:=dZ) (k:=3) (n:=0) rfl (λps r e=>match ps,e with|[_,_,_,_],e=>⟨_,_,rfl,rfl,e⟩) h λio H0 F0 hio=>?_⟩
 exact(rO (um (ie (i:=0) Z.o_Shop Z.na_Shop_bench (Rt (zO (zN (aG aF.up b8 (ao 1) aq)) (zO (Pn (Cp JX (Eh (aG aF.up b8 (ao 1) aq)))) M8)))))
   (rO (um (ie (i:=0) Z.o_Shop Z.na_Shop_size (zN (ao 2))))
   (rO (um (ie (i:=0) Z.o_Shop Z.na_Shop_states (Pn (Cp JX (fZ 3)))))
   (rO (um (ie (i:=0) Z.o_Shop Z.na_Shop_woods (Kc xF)))
   (um (ie (i:=0) Z.o_Shop Z.na_Shop_prints (Kc xF)))))))
theorem vq:bf ["self","name"] ["self","name"] (aB (inClass (top 29) 1)):=by walk_at "s"
theorem vy(T:Txt mg){f:Addr}{fd:FuncData}(F:Fun K "block" "Shop.block" (inClass (top 29) 1) f fd){d:Ads}(Z:Xt K mg d)(Bg:ud P w K mg base "check_new" 3 ["kept","name"] (spM K (XRS K) iQ))(Lh:FnAt P w K mg base "all_of" 1 ["size"] (spM K XR0 pI)):jg P w K mg base (CXS P w) 4 f fd ["self","name"] (spW K fD):=by
 refine F.okX vq (λvs H Q E h=>rT h λps r e=>match ps,e with|[_,_],_=>rfl) (λcdv A outer s H vs Q E hr h=>?_)
 refine⟨_,(aC (jK (uf ue Bg (hr.mono (by decide)) rfl (aj (fW K rfl (pv 0) rfl) (aj (pv 1) az))))
   (aK (rH (sU hr) (fW K rfl (pv 0) rfl) (pv 1) (aQ Lh (hr.mono (by decide)) rfl (aj (fW K rfl (pv 0) rfl) az)) rfl))),z9 (b:=gH) (k:=1) (n:=0) rfl (λps r e=>match ps,e with|[_,_],e=>⟨_,_,rfl,rfl,e⟩) h λF S v p0 en=>?_⟩
 exact(ux (Ab (cM (ak (iG Z.o_Shop Z.na_Shop_woods (ao 0)) (ak (ao 1) aJ))))
   (Fv en (um (vZ (i:=0) Z.o_Shop Z.na_Shop_woods (Pq (i:=0) (lL (ak (iG Z.o_Shop Z.na_Shop_size (ao 0)) aJ))) (ao 1)))))
theorem Bb:bf ["self","name","stroke"] ["self","name","stroke"] (aB (inClass (top 29) 4)):=by walk_at "s"
theorem Bc(T:Txt mg){f:Addr}{fd:FuncData}(F:Fun K "cut" "Shop.cut" (inClass (top 29) 4) f fd){d:Ads}(Z:Xt K mg d)(jw:ud P w K mg base "check_there" 3 ["kept","name"] (spM K (XRS K) cU))(Iv:FnAt P w K mg base "lies_on" 3 ["size","thing"] (spM K XR0 fU))(Bh:FnAt P w K mg base "cells_cut" 3 ["size","stroke"] (spM K XR0 iK)):jg P w K mg base (CXS P w) 4 f fd ["self","name","stroke"] (spW K cD):=by
 refine F.okX Bb (λvs H Q E h=>rT h λps r e=>match ps,e with|[_,_,_],_=>rfl) (λcdv A outer s H vs Q E hr h=>?_)
 refine⟨_,(aC (jK (uf ue jw (hr.mono (by decide)) rfl (aj (fW K rfl (pv 0) rfl) (aj (pv 1) az))))
   (aC (dU (jJ (jH (aQ Iv (hr.mono (by decide)) rfl (aj (fW K rfl (pv 0) rfl) (aj (pv 2) az)))))
    (aK (jZ Z.u_NoStroke (hr.mono (by decide)) rfl mZ))
    bY)
   (aK (rH (sU hr) (fW K rfl (pv 0) rfl) (pv 1) (aR Jb (pC hr (fW K rfl (pv 0) rfl) (pv 1) (λ_ _=>rfl)) (R9 Qw (aQ Bh (hr.mono (by decide)) rfl (aj (fW K rfl (pv 0) rfl) (aj (pv 2) az))))) rfl)))),z9 (b:=dI) (k:=2) (n:=0) rfl (λps r e=>match ps,e with|[_,_,_],e=>⟨_,_,rfl,rfl,e⟩) h λF S v p0 en=>?_⟩
 exact(ux (Ab (cM (ak (iG Z.o_Shop Z.na_Shop_woods (ao 0)) (ak (ao 1) aJ))))
   (ux (Rr (jP (jO (lL (ak (iG Z.o_Shop Z.na_Shop_size (ao 0)) (ak (ao 2) aJ)))))
    (M7 (j0 rfl Z.u_NoStroke) Hx)
    J7)
   (Fv en (um (vZ (i:=0) Z.o_Shop Z.na_Shop_woods (Pq (i:=0) (aG aF.up Pa (rN (zE (iG Z.o_Shop Z.na_Shop_woods (ao 0))) (ao 1)) (Rp (lL (ak (iG Z.o_Shop Z.na_Shop_size (ao 0)) (ak (ao 2) aJ)))))) (ao 1))))))
theorem yz:bf ["self","name"] ["self","name"] (aB (inClass (top 29) 6)):=by walk_at "s"
theorem yC(T:Txt mg){f:Addr}{fd:FuncData}(F:Fun K "wood" "Shop.wood" (inClass (top 29) 6) f fd){d:Ads}(Z:Xt K mg d)(jw:ud P w K mg base "check_there" 3 ["kept","name"] (spM K (XRS K) cU)):jg P w K mg base (CXS P w) 4 f fd ["self","name"] (spM K (XRS K) gr):=by
 refine F.okX yz (λvs H Q E h=>b7 h λps r e=>match ps,e with|[_,_],_=>rfl) (λcdv A outer s H vs Q E hr h=>?_)
 refine⟨_,(aC (jK (uf ue jw (hr.mono (by decide)) rfl (aj (fW K rfl (pv 0) rfl) (aj (pv 1) az))))
   (aK (bG (pC hr (fW K rfl (pv 0) rfl) (pv 1) (λ_ _=>rfl))))),xJ (b:=iR) (k:=2) (n:=0) rfl (λps r e=>match ps,e with|[_,_],e=>⟨rfl,e⟩) h λio H0 F0 hio=>?_⟩
 exact(aO (Mt (cM (ak (iG Z.o_Shop Z.na_Shop_woods (ao 0)) (ak (ao 1) aJ))))
   (bV (rN (zE (iG Z.o_Shop Z.na_Shop_woods (ao 0))) (ao 1))))
theorem dR:bf ["_law_script","_law_k","_law_cell","_law_number","_law_found","_law_turn"] ["_law_script","_law_k"] (aB (top 32)):=by walk_at "s"
theorem Ig(T:Txt mg)(D:bw K mg "_law_pool" (top 32) ["_law_script","_law_k"]){d:Ads}(Z:Xt K mg d):FnAt P w K mg base "_law_pool" 1 ["_law_script","_law_k"] (spO K XR0 eU):=by
 refine D.ok dR (λvs H Q E h=>Eu h λps r e=>match ps,e with|[_,_],_=>rfl) (λf cdv A outer s H vs Q E hr h=>?_)
 refine⟨_,(aC (aZ (i:=2) dR.nd rfl (Or.inl rfl) au)
   (aC (dU (cG pZ (pv 1) (bO lr rfl T.Bd (by decide +kernel) (aj (pv 0) az)) (cW _))
    (aK (aZ (i:=2) dR.nd rfl (Or.inl rfl) (bj aU (pv 0) (pv 1) (λ_ _=>rfl))))
    bY)
   (aC (dU (cG Sh (pv 2) (aR Ja au au) (cW _))
    (aK (bG (dB (aj (aR d8 (pv 2) (aR Ja au au)) az))))
    bY)
   (aC (aZ (i:=3) dR.nd rfl (Or.inl rfl) (aR bZ (aR bZ (aR d8 (pv 2) au) (aR mY (aR mY au (pv 1)) (pv 1))) au))
   (aC (aZ (i:=4) dR.nd rfl (Or.inl rfl) au)
   (aC (jM ZaT rfl (mJ rfl T.jf (aj au az)) (fV (i:=5) dR.nd rfl (Or.inl rfl))
    (aC (aZ (i:=3) dR.nd rfl (Or.inl rfl) (aR d8 (aR bZ (aR mY (pv 3) au) (aR mY au (pv 5))) au))
    (aC (aZ (i:=3) dR.nd rfl (Or.inl rfl) (aR d8 (aR mY (pv 3) (pv 3)) au))
    (aK (aZ (i:=4) dR.nd rfl (Or.inl rfl) (aR bZ (aR mY (pv 4) au) (pv 3)))))))
   (aK (bG (dB (aj (pv 4) az)))))))))),Et (b:=iT) (k:=2) (n:=4) rfl (λps r e=>match ps,e with|[_,_],e=>⟨rfl,e⟩) h λio H0 F0 hio=>?_⟩
 exact(aO (bD aq (aN 2))
   (aO (fu (cI (aG aF.up Hg (ao 1) (jT zy (bQ 0))))
    (bD (aG aF.up b8 (ao 0) (ao 1)) (aN 2))
    cj)
   (aO (fu (cI (aG aF.up Ui (ao 2) (aG aF.up O9 aq aq)))
    (rK (dC (ak (aG aF.up gY (ao 2) (aG aF.up O9 aq aq)) aJ)))
    cj)
   (aO (bD (aG aF.up dW (aG aF.up dW (aG aF.up gY (ao 2) aq) (aG aF.up p8 (aG aF.up p8 aq (ao 1)) (ao 1))) aq) (aN 3))
   (aO (bD aq (aN 4))
   (aO (oh (Er (ak aq aJ)) (aN 5)
    (aO (bD (aG aF.up gY (aG aF.up dW (aG aF.up p8 (ao 3) aq) (aG aF.up p8 aq (ao 5))) aq) (aN 3))
    (aO (bD (aG aF.up gY (aG aF.up p8 (ao 3) (ao 3)) aq) (aN 3))
    (bD (aG aF.up dW (aG aF.up p8 (ao 4) aq) (ao 3)) (aN 4)))))
   (rK (dC (ak (ao 4) aJ)))))))))
theorem ww:bf ["_law_pool_here","_law_many","_law_found"] ["_law_pool_here","_law_many"] (aB (top 33)):=by walk_at "s"
theorem Ii(T:Txt mg)(D:bw K mg "_law_take" (top 33) ["_law_pool_here","_law_many"]){d:Ads}(Z:Xt K mg d):FnAt P w K mg base "_law_take" 1 ["_law_pool_here","_law_many"] (spR K 0 bB):=by
 refine D.ok ww (λvs H Q E h=>Nr h λps r e=>match ps,e with|[_,_],_=>rfl) (λf cdv A outer s H vs Q E hr h=>?_)
 refine⟨_,(aC (aZ (i:=2) ww.nd rfl (Or.inl rfl) (aR d8 (bj aU (pv 0) au (λ_ _=>rfl)) (pv 1)))
   (aC (Qn (aR iy (bj aU (pv 0) au (λ_ _=>rfl)) (pv 1)) (Qm (pv 0) au set_list))
   (aK (bG (pv 2))))),Nt (b:=iU) (k:=2) (n:=1) rfl (λps r e=>match ps,e with|[_,_],e=>⟨rfl,e⟩) h λioa H0 F0=>?_⟩
 exact(Fj (bD (aG aF.up gY (aG aV.up Eo (fZ 0) aq) (ao 1)) (aN 2))
   (Fj (Q3 (aG aF.up qN (aG aV.up Eo (fZ 0) aq) (ao 1)) aq)
   (Nq (j:=0) (ao 2))))
theorem Ij:bf ["_law_place","_law_k"] ["_law_place","_law_k"] (aB (top 34)):=by walk_at "s"
theorem Ik(T:Txt mg)(D:bw K mg "_law_word" (top 34) ["_law_place","_law_k"]){d:Ads}(Z:Xt K mg d):FnAt P w K mg base "_law_word" 1 ["_law_place","_law_k"] (spM K XR0 cZ):=by
 refine D.ok Ij (λvs H Q E h=>b7 h λps r e=>match ps,e with|[_,_],_=>rfl) (λf cdv A outer s H vs Q E hr h=>?_)
 refine⟨_,(aK (bG (aR bZ (aR bZ (gR Js bM mL (iz (pv 0))) (bj aU bM (pv 1) (λ_ _=>rfl))) (gR Js bM (iz (pv 0)) mL)))),cJ (b:=iV) (k:=2) (n:=0) rfl (λps r e=>match ps,e with|[_,_],e=>⟨rfl,e⟩) h λio H0 F0 hio=>?_⟩
 exact(bV (aG aF.up dW (aG aF.up dW (JR bC mU (iB (ao 0))) (aG aF.up b8 bC (ao 1))) (JR bC (iB (ao 0)) mU)))
theorem cF:bf ["_law_pool_here","_law_place","_law_paper","_law_shift","_law_inks","_law_k","_law_name","_law_unders","_law_pairs","_law_j","_law_under"] ["_law_pool_here"] (aB (top 35)):=by walk_at "s"
theorem Ds(T:Txt mg)(D:bw K mg "_law_bench" (top 35) ["_law_pool_here"]){d:Ads}(Z:Xt K mg d)(bU:FnAt P w K mg base "_law_take" 1 ["_law_pool_here","_law_many"] (spR K 0 bB))(gB:FnAt P w K mg base "_law_word" 1 ["_law_place","_law_k"] (spM K XR0 cZ)):FnAt P w K mg base "_law_bench" 2 ["_law_pool_here"] (spG K fG):=by
 refine D.ok cF (λvs H Q E h=>Fl h λps r e=>match ps,e with|[_],_=>rfl) (λf cdv A outer s H vs Q E hr h=>?_)
 refine⟨_,(aC (aZ (i:=1) cF.nd rfl (Or.inl rfl) (aQ bU (hr.mono (by decide)) rfl (aj (pv 0) (aj au az))))
   (aC (aZ (i:=2) cF.nd rfl (Or.inl rfl) (aQ gB (hr.mono (by decide)) rfl (aj (pv 1) (aj (aQ bU (hr.mono (by decide)) rfl (aj (pv 0) (aj au az))) az))))
   (aC (aZ (i:=3) cF.nd rfl (Or.inl rfl) (aQ bU (hr.mono (by decide)) rfl (aj (pv 0) (aj au az))))
   (aC (aZ (i:=4) cF.nd rfl (Or.inl rfl) (dB az))
   (aC (jM ZaT rfl (mJ rfl T.jf (aj (aR bZ au (aQ bU (hr.mono (by decide)) rfl (aj (pv 0) (aj au az)))) az)) (fV (i:=5) cF.nd rfl (Or.inl rfl))
    (aC (aZ (i:=6) cF.nd rfl (Or.inl rfl) (aQ gB (hr.mono (by decide)) rfl (aj (aR d8 (aR bZ (pv 1) au) au) (aj (aR d8 (aR bZ (aR o7 au (pv 5)) (pv 3)) au) az))))
    (aK (dU (cG pZ (aQ bU (hr.mono (by decide)) rfl (aj (pv 0) (aj au az))) au (cW _))
     (aK (jK (Ed Za9 Zbj PySem.F.type_list_append mO (pv 4) (aj (dz (aj bM (aj (pv 6) (aj (aQ gB (hr.mono (by decide)) rfl (aj (pv 1) (aj (aQ bU (hr.mono (by decide)) rfl (aj (pv 0) (aj au az))) az))) az)))) az))))
     (aC (aZ (i:=7) cF.nd rfl (Or.inl rfl) (fP (Hk rfl) rfl T.yE (by decide +kernel) (aj (fP Hi rfl T.jf (by decide +kernel) (aj au az)) az)))
     (aC (aZ (i:=8) cF.nd rfl (Or.inl rfl) (dB az))
     (aC (jM ZaT rfl (mJ rfl T.jf (aj (aR bZ au (aQ bU (hr.mono (by decide)) rfl (aj (pv 0) (aj au az)))) az)) (fV (i:=9) cF.nd rfl (Or.inl rfl))
      (aC (aZ (i:=10) cF.nd rfl (Or.inl rfl) (Ed Za9 PySem.F.slot_list_pop PySem.F.type_list_pop Jo (pv 7) (aj (aQ bU (hr.mono (by decide)) rfl (aj (pv 0) (aj (bO lr rfl T.Bd (by decide +kernel) (aj (pv 7) az)) az))) az)))
      (aK (jK (Ed Za9 Zbj PySem.F.type_list_append mO (pv 8) (aj (dz (aj (aQ gB (hr.mono (by decide)) rfl (aj (pv 1) (aj (pv 10) az))) (aj (aQ gB (hr.mono (by decide)) rfl (aj (pv 1) (aj (aQ bU (hr.mono (by decide)) rfl (aj (pv 0) (aj au az))) az))) az))) az))))))
     (aK (jK (Ed Za9 Zbj PySem.F.type_list_append mO (pv 4) (aj (dz (aj bM (aj (pv 6) (aj (fP uY rfl T.Gj (by decide +kernel) (aj (pv 8) az)) az)))) az)))))))))))
   (aK (bG (dz (aj (pv 2) (aj (pv 4) az)))))))))),Fo (b:=gJ) (k:=1) (n:=10) rfl (λps r e=>match ps,e with|[_],e=>⟨rfl,e⟩) h λio H0 F0 hio=>?_⟩
 exact(aO (rR (lN (dF (ak aq aJ))) (aN 1))
   (aO (rR (rQ (cO (jC (ao 1)) (cO (lN (dF (ak aq aJ))) j4))) (aN 2))
   (aO (rR (lN (dF (ak aq aJ))) (aN 3))
   (aO (rJ (i:=4) trivial (dC aJ))
   (aO (Ff (vV dW (jC aq) (lN (dF (ak aq aJ)))) (aN 5)
    (aO (bD (cM (ak (aG aF.up gY (aG aF.up dW (ao 1) aq) aq) (ak (aG aF.up gY (aG aF.up dW (aG aF.up zu aq (ao 5)) (ao 3)) aq) aJ))) (aN 6))
    (Kl (zW (vV Hg (lN (dF (ak aq aJ))) (jC aq)))
     (Fg (i:=4) (CP (cO (jC bC) (cO (jC (ao 6)) (cO (rQ (cO (jC (ao 1)) (cO (lN (dF (ak aq aJ))) j4))) j4)))))
     (aO (rJ (i:=7) trivial (M6 aq))
     (aO (rJ (i:=8) trivial (dC aJ))
     (aO (Ff (vV dW (jC aq) (lN (dF (ak aq aJ)))) (aN 9)
      (aO (Np (g:=10) (i:=7) (lN (dF (ak (jT zy (bQ 7)) aJ))))
      (Fg (i:=8) (CP (cO (jC (cM (ak (ao 1) (ak (ao 10) aJ)))) (cO (rQ (cO (jC (ao 1)) (cO (lN (dF (ak aq aJ))) j4))) j4))))))
     (Q0 (fQ (ak bC (ak (ao 6) (ak (jT Tn (fZ 8)) aJ)))))))))))
   (QZ 4 hio (bV (fQ (ak (ao 2) (ak (ao 4) aJ))))))))))
theorem wy:bf ["_law_pool_here","_law_wide"] ["_law_pool_here"] (aB (top 36)):=by walk_at "s"
theorem Il(T:Txt mg)(D:bw K mg "_law_size" (top 36) ["_law_pool_here"]){d:Ads}(Z:Xt K mg d)(bU:FnAt P w K mg base "_law_take" 1 ["_law_pool_here","_law_many"] (spR K 0 bB)):FnAt P w K mg base "_law_size" 2 ["_law_pool_here"] (spG K iY):=by
 refine D.ok wy (λvs H Q E h=>Fl h λps r e=>match ps,e with|[_],_=>rfl) (λf cdv A outer s H vs Q E hr h=>?_)
 refine⟨_,(aC (aZ (i:=1) wy.nd rfl (Or.inl rfl) (aR bZ au (aQ bU (hr.mono (by decide)) rfl (aj (pv 0) (aj au az)))))
   (aK (bG (dz (aj (pv 1) (aj (aR bZ au (aQ bU (hr.mono (by decide)) rfl (aj (pv 0) (aj au az)))) az)))))),Fo (b:=iW) (k:=1) (n:=1) rfl (λps r e=>match ps,e with|[_],e=>⟨rfl,e⟩) h λio H0 F0 hio=>?_⟩
 exact(aO (rR (vV dW (jC aq) (lN (dF (ak aq aJ)))) (aN 1))
   (Nm (CP (cO (jC (ao 1)) (cO (vV dW (jC aq) (lN (dF (ak aq aJ)))) j4)))))
theorem gP:bf ["_law_size_here","_law_stroke","_law_found","_law_k","_law_column","_law_row"] ["_law_size_here","_law_stroke"] (aB (top 41)):=by walk_at "s"
theorem Im(T:Txt mg)(D:bw K mg "_law_gone" (top 41) ["_law_size_here","_law_stroke"]){d:Ads}(Z:Xt K mg d):FnAt P w K mg base "_law_gone" 1 ["_law_size_here","_law_stroke"] (spM K XR0 jb):=by
 refine D.ok gP (λvs H Q E h=>b7 h λps r e=>match ps,e with|[_,_],_=>rfl) (λf cdv A outer s H vs Q E hr h=>?_)
 refine⟨_,(aC (aZ (i:=2) gP.nd rfl (Or.inl rfl) au)
   (aC (jM ZaT rfl (pP rfl T.jf (aj (bj aU (pv 1) au (λ_ _=>rfl)) (aj (aR bZ (bj aU (pv 1) au (λ_ _=>rfl)) au) az))) (fV (i:=3) gP.nd rfl (Or.inl rfl))
    (aC (Br (i:=4) (j:=5) rfl gP.nd rfl rfl (by decide) rfl rfl (aj (pv 3) (aj (bj aU (pv 1) au (λ_ _=>rfl)) az)) rfl)
    (aC (dU (cG (gW hr) (bj aU (pv 1) au (λ_ _=>rfl)) bM (cW _))
     (aK (Br (i:=4) (j:=5) rfl gP.nd rfl rfl (by decide) rfl rfl (aj (bj aU (pv 1) au (λ_ _=>rfl)) (aj (pv 3) az)) rfl))
     bY)
    (aK (aZ (i:=2) gP.nd rfl (Or.inl rfl) (aR Jc (pv 2) (aR wH au (aR bZ (aR o7 (pv 5) (bj aU (pv 0) au (λ_ _=>rfl))) (pv 4)))))))))
   (aK (bG (pv 2))))),cJ (b:=iZ) (k:=2) (n:=4) rfl (λps r e=>match ps,e with|[_,_],e=>⟨rfl,e⟩) h λio H0 F0 hio=>?_⟩
 exact(aO (bD aq (aN 2))
   (aO (oh (xq (ak (aG aF.up b8 (ao 1) aq) (ak (aG aF.up dW (aG aF.up b8 (ao 1) aq) aq) aJ))) (aN 3)
    (aO (Df (i:=4) (j:=5) (ak (ao 3) (ak (aG aF.up b8 (ao 1) aq) aJ)))
    (aO (fu (cI (aG aH.up tO (cz (aG aF.up b8 (ao 1) aq)) (cz bC)))
     (Df (i:=4) (j:=5) (ak (aG aF.up b8 (ao 1) aq) (ak (ao 3) aJ)))
     cj)
    (bD (aG aF.up Q9 (ao 2) (aG aF.up En aq (aG aF.up dW (aG aF.up zu (ao 5) (aG aF.up b8 (ao 0) aq)) (ao 4)))) (aN 2)))))
   (bV (ao 2))))
theorem nj:bf ["_law_size_here","_law_found","_law_k"] ["_law_size_here"] (aB (top 42)):=by walk_at "s"
theorem Io(T:Txt mg)(D:bw K mg "_law_full" (top 42) ["_law_size_here"]){d:Ads}(Z:Xt K mg d):FnAt P w K mg base "_law_full" 1 ["_law_size_here"] (spM K XR0 gw):=by
 refine D.ok nj (λvs H Q E h=>b7 h λps r e=>match ps,e with|[_],_=>rfl) (λf cdv A outer s H vs Q E hr h=>?_)
 refine⟨_,(aC (aZ (i:=1) nj.nd rfl (Or.inl rfl) au)
   (aC (jM ZaT rfl (mJ rfl T.jf (aj (aR o7 (bj aU (pv 0) au (λ_ _=>rfl)) (bj aU (pv 0) au (λ_ _=>rfl))) az)) (fV (i:=2) nj.nd rfl (Or.inl rfl))
    (aK (aZ (i:=1) nj.nd rfl (Or.inl rfl) (aR Jc (pv 1) (aR wH au (pv 2))))))
   (aK (bG (pv 1))))),cJ (b:=jc) (k:=1) (n:=2) rfl (λps r e=>match ps,e with|[_],e=>⟨rfl,e⟩) h λio H0 F0 hio=>?_⟩
 exact(aO (bD aq (aN 1))
   (aO (oh (Er (ak (aG aF.up zu (aG aF.up b8 (ao 0) aq) (aG aF.up b8 (ao 0) aq)) aJ)) (aN 2)
    (bD (aG aF.up Q9 (ao 1) (aG aF.up En aq (ao 2))) (aN 1)))
   (bV (ao 1))))
theorem wz:bf ["_law_error_here","_law_seen"] ["_law_error_here"] (aB (top 43)):=by walk_at "s"
theorem Ip(T:Txt mg)(D:bw K mg "_law_kind" (top 43) ["_law_error_here"]){d:Ads}(Z:Xt K mg d):FnAt P w K mg base "_law_kind" 1 ["_law_error_here"] (spM K XR0 dJ):=by
 refine D.ok wz (λvs H Q E h=>b7 h λps r e=>match ps,e with|[_],_=>rfl) (λf cdv A outer s H vs Q E hr h=>?_)
 refine⟨_,(aC (dU (jH (bO (gZ (T:=.ref d.x_Wrong) (Tv:=.ref d.x_Wrong) rfl (λ_ h=>h)) rfl T.bK (by decide +kernel) (aj (pv 0) (aj (vU rfl Z.g_Wrong) az))))
    (aK (bG (dB (aj bM (aj (zU K rfl (pv 0) rfl) (aj (zU K rfl (pv 0) rfl) az))))))
    bY)
   (aC (aZ (i:=1) wz.nd rfl (Or.inl rfl) (dB (aj (bO (gZ (T:=.ref d.x_NoName) (Tv:=.ref d.x_NoName) rfl (λ_ h=>h)) rfl T.bK (by decide +kernel) (aj (pv 0) (aj (vU rfl Z.g_NoName) az))) (aj (bO (gZ (T:=.ref d.x_Twice) (Tv:=.ref d.x_Twice) rfl (λ_ h=>h)) rfl T.bK (by decide +kernel) (aj (pv 0) (aj (vU rfl Z.g_Twice) az))) (aj (bO (gZ (T:=.ref d.x_Order) (Tv:=.ref d.x_Order) rfl (λ_ h=>h)) rfl T.bK (by decide +kernel) (aj (pv 0) (aj (vU rfl Z.g_Order) az))) (aj (bO (gZ (T:=.ref d.x_NoStroke) (Tv:=.ref d.x_NoStroke) rfl (λ_ h=>h)) rfl T.bK (by decide +kernel) (aj (pv 0) (aj (vU rfl Z.g_NoStroke) az))) az))))))
   (aK (bG (aR rM (dB (aj (pO (bO (gZ (T:=.ref d.x_BlockError) (Tv:=.ref d.x_BlockError) rfl (λ_ h=>h)) rfl T.bK (by decide +kernel) (aj (pv 0) (aj (vU rfl Z.g_BlockError) az))) (sG (bO (gZ (T:=.ty "ValueError") (Tv:=.type "ValueError") rfl (λ_ h=>h)) rfl T.bK (by decide +kernel) (aj (pv 0) (aj (vM rfl T.yD (n:="ValueError") (by decide +kernel)) az))))) az)) (pv 1)))))),cJ (b:=qU) (k:=1) (n:=1) rfl (λps r e=>match ps,e with|[_],e=>⟨rfl,e⟩) h λio H0 F0 hio=>?_⟩
 exact(aO (fu (jO (oA (T:=.ref d.x_Wrong) (Ar Z) Z.no_Wrong (bQ 0)))
    (bV (d9 (dC (ak bC (ak (Fd (ym Z) (ao 0)) (ak (Fd (HY Z) (ao 0)) aJ))))))
    cj)
   (aO (bD (d9 (dC (ak (oA (T:=.ref d.x_NoName) (yl Z) Z.no_NoName (bQ 0)) (ak (oA (T:=.ref d.x_Twice) (Aq Z) Z.no_Twice (bQ 0)) (ak (oA (T:=.ref d.x_Order) (Ao Z) Z.no_Order (bQ 0)) (ak (oA (T:=.ref d.x_NoStroke) (uQ Z) Z.no_NoStroke (bQ 0)) aJ)))))) (aN 1))
   (bV (d9 (Ei aV.up Ep (gF (dC (ak (pY (oA (T:=.ref d.x_BlockError) (qp Z) Z.no_BlockError (bQ 0)) (oA (T:=.ty "ValueError") (qt Z) Z.nob_ValueError (bQ 0))) aJ))) (fZ 1))))))
theorem Lb:bf ["_law_word_here"] ["_law_word_here"] (aB (top 44)):=by walk_at "s"
theorem Ld(T:Txt mg)(D:bw K mg "_law_due" (top 44) ["_law_word_here"]){d:Ads}(Z:Xt K mg d):FnAt P w K mg base "_law_due" 1 ["_law_word_here"] (spM K XR0 eO):=by
 refine D.ok Lb (λvs H Q E h=>b7 h λps r e=>match ps,e with|[_],_=>rfl) (λf cdv A outer s H vs Q E hr h=>?_)
 refine⟨_,(aC (dU (cG (gW hr) (pv 0) bM (cW _))
    (aK (bG (dB (aj fY (aj fY (aj fY (aj fY (aj fY az))))))))
    bY)
   (aK (bG (aR rM (dB (aj fY az)) (oR ["_law_one","_law_word_here"] [none,some 0] rfl (jQ (dB (aj bM (aj bM (aj bM (aj bM az)))))) (λ_ _ _ _ _=>(lu (i:=0) (by decide +kernel) rfl rfl)) (λ_ _ _ _ _=>sW) (λ_ _ _ _ _=>(mK (M4 hr) (pvf 1) (pvl 0) (cW _)))))))),cJ (b:=uH) (k:=1) (n:=0) rfl (λps r e=>match ps,e with|[_],e=>⟨rfl,e⟩) h λio H0 F0 hio=>?_⟩
 exact(aO (fu (cI (aG aH.up tO (bQ 0) (cz bC)))
    (bV (d9 (dC (ak gb (ak gb (ak gb (ak gb (ak gb aJ))))))))
    cj)
   (bV (d9 (Ei aV.up Ep (gF (dC (ak gb aJ))) (gF (pA (jR (d9 (dC (ak bC (ak bC (ak bC (ak bC aJ))))))) (aN 0) (ph 0) tU (aG aH.up tO (bQ 1) (bQ 0))))))))
theorem kh:bf ["_law_shop","_law_name","_law_thing","_law_error_here","e"] ["_law_shop","_law_name","_law_thing"] (aB (top 45)):=by walk_at "s"
theorem Dt(T:Txt mg)(D:bw K mg "_law_error" (top 45) ["_law_shop","_law_name","_law_thing"]){d:Ads}(Z:Xt K mg d)(Dy:MethAt P w K mg base d.x_Shop "cut" 4 ["self","name","stroke"] (spW K cD)):FnAt P w K mg base "_law_error" 5 ["_law_shop","_law_name","_law_thing"] (spW K dO):=by
 refine D.ok kh (λvs H Q E h=>rT h λps r e=>match ps,e with|[_,_,_],_=>rfl) (λf cdv A outer s H vs Q E hr h=>?_)
 refine⟨_,(aC (aZ (i:=3) kh.nd rfl (Or.inl rfl) Bq)
   (aC (Rw rfl rfl (Hm (Hv Dy Z.o_Shop.cl (hr.mono (by decide)) (pv 0) (aj (pv 1) (aj (pv 2) az))))
    (TJ rfl Z.g_BlockError Z.ca_BlockError kh.nd (i:=4) rfl rfl (λ_=>(aK (aZ (i:=3) kh.nd rfl (Or.inl rfl) (pv 4)))) Rv))
   (aK (bG (pv 3))))),Kq (b:=dN) (k:=2) (n:=2) rfl (λps r e=>match ps,e with|[_,_,_],e=>⟨_,_,rfl,rfl,e⟩) h λio H0 F0 hio=>?_⟩
 exact(z7 (Ez Ci (zJ 3 (by decide)))
   (z7 (NB (Ht (i:=0) Z.o_Shop trivial (ak (ao 1) (ak (ao 2) aJ)))
    (RG (by decide) Z.n_BlockError (qm Z) (Ez (ao 4) (zJ 3 (by decide))) NK))
   (Kp (ao 3))))
theorem nq:bf ["_law_size_here","_law_stroke","_law_along","_law_across"] ["_law_size_here","_law_stroke"] (aB (top 46)):=by walk_at "s"
theorem Ir(T:Txt mg)(D:bw K mg "_law_lies" (top 46) ["_law_size_here","_law_stroke"]){d:Ads}(Z:Xt K mg d):FnAt P w K mg base "_law_lies" 1 ["_law_size_here","_law_stroke"] (spM K XR0 je):=by
 refine D.ok nq (λvs H Q E h=>b7 h λps r e=>match ps,e with|[_,_],_=>rfl) (λf cdv A outer s H vs Q E hr h=>?_)
 refine⟨_,(aC (aZ (i:=2) nq.nd rfl (Or.inl rfl) (bj aU (pv 0) au (λ_ _=>rfl)))
   (aC (aZ (i:=3) nq.nd rfl (Or.inl rfl) (bj aU (pv 0) au (λ_ _=>rfl)))
   (aC (dU (cG (gW hr) (bj aU (pv 1) au (λ_ _=>rfl)) bM (cW _))
    (aK (Br (i:=2) (j:=3) rfl nq.nd rfl rfl (by decide) rfl rfl (aj (bj aU (pv 0) au (λ_ _=>rfl)) (aj (bj aU (pv 0) au (λ_ _=>rfl)) az)) rfl))
    bY)
   (aK (bG (pO (yQ lB pZ au (bj aU (pv 1) au (λ_ _=>rfl)) (pv 3)) (sG (Hy lB lB pZ au (bj aU (pv 1) au (λ_ _=>rfl)) (bj aU (pv 1) au (λ_ _=>rfl)) (pv 2))))))))),cJ (b:=jd) (k:=2) (n:=2) rfl (λps r e=>match ps,e with|[_,_],e=>⟨rfl,e⟩) h λio H0 F0 hio=>?_⟩
 exact(aO (bD (aG aF.up b8 (ao 0) aq) (aN 2))
   (aO (bD (aG aF.up b8 (ao 0) aq) (aN 3))
   (aO (fu (cI (aG aH.up tO (cz (aG aF.up b8 (ao 1) aq)) (cz bC)))
    (Df (i:=2) (j:=3) (ak (aG aF.up b8 (ao 0) aq) (ak (aG aF.up b8 (ao 0) aq) aJ)))
    cj)
   (bV (pY (tD zx Hg aq (aG aF.up b8 (ao 1) aq) (ao 3)) (Hz zx zx Hg aq (aG aF.up b8 (ao 1) aq) (aG aF.up b8 (ao 1) aq) (ao 2)))))))
theorem pN:bf ["_law_cell","_law_stroke","_law_some"] ["_law_cell","_law_stroke"] (aB (top 47)):=by walk_at "s"
theorem Le(T:Txt mg)(D:bw K mg "_law_odd" (top 47) ["_law_cell","_law_stroke"]){d:Ads}(Z:Xt K mg d):FnAt P w K mg base "_law_odd" 1 ["_law_cell","_law_stroke"] (spM K XR0 j9):=by
 refine D.ok pN (λvs H Q E h=>b7 h λps r e=>match ps,e with|[_,_],_=>rfl) (λf cdv A outer s H vs Q E hr h=>?_)
 refine⟨_,(aC (aZ (i:=2) pN.nd rfl (Or.inl rfl) (dB (aj Bq (aj bM (aj (fP jN rfl T.yE (by decide +kernel) (aj (pv 1) az)) (aj (gR wM (pv 1) mL (iz au)) (aj (aR bZ (pv 1) (dz (aj au az))) (aj (aR bZ (dz (aj bM az)) (gR wM (pv 1) (iz au) mL)) (aj (aR bZ (dz (aj fY az)) (gR wM (pv 1) (iz au) mL)) az)))))))))
   (aC (aZ (i:=2) pN.nd rfl (Or.inl rfl) (aR rM (pv 2) (dB (aj (dz (aj (bj aU (pv 1) au (λ_ _=>rfl)) (aj fY (aj au (aj au az))))) (aj (dz (aj (bj aU (pv 1) au (λ_ _=>rfl)) (aj au (aj fY (aj au az))))) az)))))
   (aC (aZ (i:=2) pN.nd rfl (Or.inl rfl) (aR rM (pv 2) (dB (aj (dz (aj (bj aU (pv 1) au (λ_ _=>rfl)) (aj (bj aU (pv 1) au (λ_ _=>rfl)) (aj bM (aj (bj aU (pv 1) au (λ_ _=>rfl)) az))))) (aj (dz (aj (bj aU (pv 1) au (λ_ _=>rfl)) (aj Bq (aj au (aj au az))))) (aj au az))))))
   (aK (bG (bj aU (pv 2) (aR d8 (pv 0) au) (λ_ _=>rfl))))))),cJ (b:=j8) (k:=2) (n:=1) rfl (λps r e=>match ps,e with|[_,_],e=>⟨rfl,e⟩) h λio H0 F0 hio=>?_⟩
 exact(aO (bD (d9 (dC (ak Ci (ak bC (ak (d9 (Cp M3 (ao 1))) (ak (xj (ao 1) mU (iB aq)) (ak (aG aF.up dW (ao 1) (fQ (ak aq aJ))) (ak (aG aF.up dW (fQ (ak bC aJ)) (xj (ao 1) (iB aq) mU)) (ak (aG aF.up dW (fQ (ak gb aJ)) (xj (ao 1) (iB aq) mU)) aJ))))))))) (aN 2))
   (aO (bD (d9 (Ei aV.up Ep (fZ 2) (gF (dC (ak (fQ (ak (aG aF.up b8 (ao 1) aq) (ak gb (ak aq (ak aq aJ))))) (ak (fQ (ak (aG aF.up b8 (ao 1) aq) (ak aq (ak gb (ak aq aJ))))) aJ)))))) (aN 2))
   (aO (bD (d9 (Ei aV.up Ep (fZ 2) (gF (dC (ak (fQ (ak (aG aF.up b8 (ao 1) aq) (ak (aG aF.up b8 (ao 1) aq) (ak bC (ak (aG aF.up b8 (ao 1) aq) aJ))))) (ak (fQ (ak (aG aF.up b8 (ao 1) aq) (ak Ci (ak aq (ak aq aJ))))) (ak aq aJ))))))) (aN 2))
   (bV (aG aF.up b8 (ao 2) (aG aF.up gY (ao 0) aq))))))
theorem cV:bf ["_law_script","_law_bench_here","_law_size_here","_law_shop","_law_names","_law_woods","_law_name","_law_cell","_law_number","_law_first","_law_line","_law_stroke","_law_thing","_law_good","_law_due_here","_law_one"] ["_law_script"] (aB (top 48)):=by walk_at "s"
theorem RW(T:Txt mg){f:Addr}{fd:FuncData}(F:Fun K "law" "law" (top 48) f fd){d:Ads}(Z:Xt K mg d)(yF:FnAt P w K mg base "_law_bench" 2 ["_law_pool_here"] (spG K fG))(qX:FnAt P w K mg base "_law_pool" 1 ["_law_script","_law_k"] (spO K XR0 eU))(Bj:FnAt P w K mg base "_law_size" 2 ["_law_pool_here"] (spG K iY))(rG:Dc P w K mg base d.x_Shop 1 ["self","bench","size","states"] (spW K dm))(yG:MethAt P w K mg base d.x_Shop "block" 4 ["self","name"] (spW K fD))(qY:FnAt P w K mg base "_law_full" 1 ["_law_size_here"] (spM K XR0 gw))(Bk:FnAt P w K mg base "_law_lies" 1 ["_law_size_here","_law_stroke"] (spM K XR0 je))(Dz:FnAt P w K mg base "_law_odd" 1 ["_law_cell","_law_stroke"] (spM K XR0 j9))(Bl:FnAt P w K mg base "_law_kind" 1 ["_law_error_here"] (spM K XR0 dJ))(yH:FnAt P w K mg base "_law_error" 5 ["_law_shop","_law_name","_law_thing"] (spW K dO))(DG:FnAt P w K mg base "_law_due" 1 ["_law_word_here"] (spM K XR0 eO))(Bm:FnAt P w K mg base "_law_gone" 1 ["_law_size_here","_law_stroke"] (spM K XR0 jb))(Bo:MethAt P w K mg base d.x_Shop "wood" 4 ["self","name"] (spM K (XRS K) gr)):jg P w K mg base CX0 6 f fd ["_law_script"] (spM K XR0 wg):=by
 refine F.ok cV (λvs H Q E h=>b7 h λps r e=>match ps,e with|[_],_=>rfl) (λcdv A outer s H vs Q E hr h=>?_)
 refine⟨_,(aC (aZ (i:=1) cV.nd rfl (Or.inl rfl) (aQ yF (hr.mono (by decide)) rfl (aj (aQ qX (hr.mono (by decide)) rfl (aj (pv 0) (aj au az))) az)))
   (aC (aZ (i:=2) cV.nd rfl (Or.inl rfl) (aQ Bj (hr.mono (by decide)) rfl (aj (aQ qX (hr.mono (by decide)) rfl (aj (pv 0) (aj au az))) az)))
   (aC (aZ (i:=3) cV.nd rfl (Or.inl rfl) (Kw rG (hr.mono (by decide)) rfl Z.g_Shop (aj (pv 1) (aj (pv 2) (aj (aR QK (dB (aj au az)) (bO lr rfl T.Bd (by decide +kernel) (aj (bj aU (pv 1) au (λ_ _=>rfl)) az))) az)))))
   (aC (aZ (i:=4) cV.nd rfl (Or.inl rfl) (dB (aj bM (aj bM (aj bM az)))))
   (aC (aZ (i:=5) cV.nd rfl (Or.inl rfl) tu)
   (aC (jM ZaT rfl (jQ (pv 4)) (fV (i:=6) cV.nd rfl (Or.inl rfl))
    (aC (jK (Aa Fw yG Z.o_Shop.cl (hr.mono (by decide)) (pv 3) (aj (pv 6) az)))
    (aK (rH (sU hr) (pv 5) (pv 6) (aQ qY (hr.mono (by decide)) rfl (aj (pv 2) az)) rfl))))
   (aC (jM ZaT rfl (jQ (gR Mj (pv 0) (iz au) (iz au))) (fV (i:=7) cV.nd rfl (Or.inl rfl))
    (aC (aZ (i:=6) cV.nd rfl (Or.inl rfl) (bj aU (dB (aj bM (aj bM (aj bM (aj bM az))))) (aR d8 (pv 7) au) (λ_ _=>rfl)))
    (aC (aZ (i:=8) cV.nd rfl (Or.inl rfl) (aR iy (pv 7) au))
    (aC (aZ (i:=9) cV.nd rfl (Or.inl rfl) (aR Bv (aR d8 (aR iy (pv 8) au) au) au))
    (aC (aZ (i:=10) cV.nd rfl (Or.inl rfl) (aR Bv (aR d8 (aR iy (pv 8) au) au) (fP Gy rfl T.Qc (by decide +kernel) (aj (mK (gW hr) (aR d8 (aR iy (pv 8) au) au) au (cW _)) az))))
    (aC (aZ (i:=11) cV.nd rfl (Or.inl rfl) (dz (aj (bj aU (dB (aj bM (aj bM az))) (aR d8 (pv 8) au) (λ_ _=>rfl)) (aj (pv 10) (aj (pv 9) (aj (aR bZ (pv 9) (aR d8 (aR iy (pv 8) au) au)) az))))))
    (aC (aZ (i:=12) cV.nd rfl (Or.inl rfl) (pv 11))
    (aC (aZ (i:=13) cV.nd rfl (Or.inl rfl) (aQ Bk (hr.mono (by decide)) rfl (aj (pv 2) (aj (pv 11) az))))
    (aC (dU (cG (gW hr) (aR d8 (aR iy (pv 8) au) au) au (cW _))
     (aC (aZ (i:=12) cV.nd rfl (Or.inl rfl) (aQ Dz (hr.mono (by decide)) rfl (aj (aR iy (pv 8) au) (aj (pv 11) az))))
     (aK (aZ (i:=13) cV.nd rfl (Or.inl rfl) fY)))
     bY)
    (aC (aZ (i:=14) cV.nd rfl (Or.inl rfl) bM)
    (aC (dU (jJ (jH (pv 13)))
     (aK (aZ (i:=14) cV.nd rfl (Or.inl rfl) bM))
     bY)
    (aC (dU (cG (gW hr) (pv 6) bM (cW _))
     (aK (aZ (i:=14) cV.nd rfl (Or.inl rfl) bM))
     bY)
    (aC (dU (cG (Ck hr) (aQ Bl (hr.mono (by decide)) rfl (aj (aQ yH (hr.mono (by decide)) rfl (aj (pv 3) (aj (pv 6) (aj (pv 12) az)))) az)) (aQ DG (hr.mono (by decide)) rfl (aj (pv 14) az)) (cW _))
     (aK (bG fY))
     bY)
    (aC (dU (cG (gW hr) (pv 14) bM (cW _))
     (aK (rH (sU hr) (pv 5) (pv 6) (aR Jb (pC hr (pv 5) (pv 6) (λ_ _=>rfl)) (aR Qv (aQ qY (hr.mono (by decide)) rfl (aj (pv 2) az)) (aQ Bm (hr.mono (by decide)) rfl (aj (pv 2) (aj (pv 11) az))))) rfl))
     bY)
    (aK (jM ZaT rfl (jQ (pv 4)) (fV (i:=15) cV.nd rfl (Or.inl rfl))
     (aK (dU (cG (Ck hr) (Aa Fw Bo Z.o_Shop.cl (hr.mono (by decide)) (pv 3) (aj (pv 15) az)) (pC hr (pv 5) (pv 15) (λ_ _=>rfl)) (cW _))
      (aK (bG fY))
      bY))))))))))))))))))
   (aK (bG fY))))))))),cJ (b:=FW) (k:=1) (n:=15) rfl (λps r e=>match ps,e with|[_],e=>⟨rfl,e⟩) h λio H0 F0 hio=>?_⟩
 exact(aO (bD (Fp (wX (ak (ao 0) (ak aq aJ))) aJ) (aN 1))
   (aO (bD (Fp (wX (ak (ao 0) (ak aq aJ))) aJ) (aN 2))
   (aO (M9 (i:=3) trivial (Ny Z.nm_Shop (ak (ao 1) (ak (ao 2) (ak (d9 (Rf (dC (ak aq aJ)) (jT zy (cz (aG aF.up b8 (ao 1) aq))))) aJ)))))
   (aO (bD (d9 (dC (ak bC (ak bC (ak bC aJ))))) (aN 4))
   (aO (rJ (i:=5) trivial xF)
   (aO (oh (jR (ao 4)) (aN 6)
    (aO (TY (Ks (i:=3) Z.o_Shop trivial (ak (ao 6) aJ)))
    (Ey (cM (ak (ao 2) aJ)) (ao 6))))
   (aO (oh (jR (d9 (Rg (fZ 0) (iB aq) (iB aq)))) (aN 7)
    (aO (bD (aG aV.up Eo (gF (dC (ak bC (ak bC (ak bC (ak bC aJ)))))) (aG aF.up gY (ao 7) aq)) (aN 6))
    (aO (bD (aG aF.up qN (ao 7) aq) (aN 8))
    (aO (bD (aG aF.up JM (aG aF.up gY (aG aF.up qN (ao 8) aq) aq) aq) (aN 9))
    (aO (bD (aG aF.up JM (aG aF.up gY (aG aF.up qN (ao 8) aq) aq) (jT Ri (aG aH.up tO (cz (aG aF.up gY (aG aF.up qN (ao 8) aq) aq)) (cz aq)))) (aN 10))
    (aO (bD (fQ (ak (aG aV.up Eo (gF (dC (ak bC (ak bC aJ)))) (aG aF.up gY (ao 8) aq)) (ak (ao 10) (ak (ao 9) (ak (aG aF.up dW (ao 9) (aG aF.up gY (aG aF.up qN (ao 8) aq) aq)) aJ))))) (aN 11))
    (aO (bD (ao 11) (aN 12))
    (aO (bD (cM (ak (ao 2) (ak (ao 11) aJ))) (aN 13))
    (aO (fu (cI (aG aH.up tO (cz (aG aF.up gY (aG aF.up qN (ao 8) aq) aq)) (cz aq)))
     (aO (bD (cM (ak (aG aF.up qN (ao 8) aq) (ak (ao 11) aJ))) (aN 12))
     (bD gb (aN 13)))
     cj)
    (aO (bD bC (aN 14))
    (aO (fu (jP (jO (ao 13)))
     (bD bC (aN 14))
     cj)
    (aO (fu (cI (aG aH.up tO (bQ 6) (cz bC)))
     (bD bC (aN 14))
     cj)
    (aO (Kl (zW (vV (RK Ra) (rQ (cO (NP (i:=3) trivial (ak (ao 6) (ak (ao 12) aJ))) j4)) (jC (cM (ak (ao 14) aJ)))))
     (bV gb)
     cj)
    (aO (fu (cI (aG aH.up tO (bQ 14) (cz bC)))
     (Ey (aG aF.up Pa (rN (mW 5) (ao 6)) (aG aF.up Th (cM (ak (ao 2) aJ)) (cM (ak (ao 2) (ak (ao 11) aJ))))) (ao 6))
     cj)
    (oh (jR (ao 4)) (aN 15)
     (fu (Tw (i:=3) (cI (aG aH.up Ra (cz (Hw Z.o_Shop (ao 3) (ak (ao 15) aJ))) (cz (rN (mW 5) (ao 15))))))
      (bV gb)
      cj))))))))))))))))
   (bV gb))))))))
end
theorem RX{l:PySem.W.OpenLaw}{w:World}{K:PySem.W.Frag}{h:Heap}{mg:Str->Option Value}{fa f0 f1 f2 f3 f4 f5 f6 f7 f8 f9 f10 f11 f12 f13 f14 f15 f16 f17 f18 f19 f20 f21 f22 f23 f24 f25:Addr}(X:K.In h)(G:h.Ns mainGlobals mg)(hfa:mg "law"=some (.ref fa))
  {od0 an0 od1 an1 od2 an2 od3 an3 od4 an4 od5 an5 od6 an6 od7 an7 od8 an8 od9 an9 od10 an10 od11 an11 od12 an12 od13 an13 od14 an14 od15 an15 od16 an16 od17 an17 od18 an18 od19 an19 od20 an20 od21 an21 od22 an22 od23 an23 od24 an24 od25 an25:Option Addr}{sl0 sl1 sl2 sl3 sl4 sl5 sl6 sl7 sl8 sl9 sl10 sl11 sl12 sl13 sl14 sl15 sl16 sl17 sl18 sl19 sl20 sl21 sl22 sl23 sl24 sl25:Array (Option Value)}{oc0 kV0 dc0 pm0 cd0 ct0 oc1 kV1 dc1 pm1 cd1 ct1 oc2 kV2 dc2 pm2 cd2 ct2 oc3 kV3 dc3 pm3 cd3 ct3 oc4 kV4 dc4 pm4 cd4 ct4 oc5 kV5 dc5 pm5 cd5 ct5 oc6 kV6 dc6 pm6 cd6 ct6 oc7 kV7 dc7 pm7 cd7 ct7 oc8 kV8 dc8 pm8 cd8 ct8 oc9 kV9 dc9 pm9 cd9 ct9 oc10 kV10 dc10 pm10 cd10 ct10 oc11 kV11 dc11 pm11 cd11 ct11 oc12 kV12 dc12 pm12 cd12 ct12 oc13 kV13 dc13 pm13 cd13 ct13 oc14 kV14 dc14 pm14 cd14 ct14 oc15 kV15 dc15 pm15 cd15 ct15 oc16 kV16 dc16 pm16 cd16 ct16 oc17 kV17 dc17 pm17 cd17 ct17 oc18 kV18 dc18 pm18 cd18 ct18 oc19 kV19 dc19 pm19 cd19 ct19 oc20 kV20 dc20 pm20 cd20 ct20 oc21 kV21 dc21 pm21 cd21 ct21 oc22 kV22 dc22 pm22 cd22 ct22 oc23 kV23 dc23 pm23 cd23 ct23 oc24 kV24 dc24 pm24 cd24 ct24 oc25 kV25 dc25 pm25 cd25 ct25:Value}{t_COLUMN t_LETTERS t_LONGEST_WORD t_ROW:Tok}
  (a0:nsIn K mainGlobals "is_word"=some (some (.ref f0)))(l0:K.lookup f0=some ⟨oc0,od0,.func (fnOf "is_word" "is_word" (bh (top 11)) (aW (top 11)) (aB (top 11)) .none kV0 dc0 pm0 an0 cd0 ct0),sl0⟩)(c0:codeIn K cd0 "is_word"=true)(k0:keepIn K (.ref f0)=true)
  (a1:nsIn K mainGlobals "is_whole"=some (some (.ref f1)))(l1:K.lookup f1=some ⟨oc1,od1,.func (fnOf "is_whole" "is_whole" (bh (top 13)) (aW (top 13)) (aB (top 13)) .none kV1 dc1 pm1 an1 cd1 ct1),sl1⟩)(c1:codeIn K cd1 "is_whole"=true)(k1:keepIn K (.ref f1)=true)
  (a2:nsIn K mainGlobals "place_of"=some (some (.ref f2)))(l2:K.lookup f2=some ⟨oc2,od2,.func (fnOf "place_of" "place_of" (bh (top 14)) (aW (top 14)) (aB (top 14)) .none kV2 dc2 pm2 an2 cd2 ct2),sl2⟩)(c2:codeIn K cd2 "place_of"=true)(k2:keepIn K (.ref f2)=true)
  (a3:nsIn K mainGlobals "all_of"=some (some (.ref f3)))(l3:K.lookup f3=some ⟨oc3,od3,.func (fnOf "all_of" "all_of" (bh (top 15)) (aW (top 15)) (aB (top 15)) .none kV3 dc3 pm3 an3 cd3 ct3),sl3⟩)(c3:codeIn K cd3 "all_of"=true)(k3:keepIn K (.ref f3)=true)
  (a4:nsIn K mainGlobals "set_of"=some (some (.ref f4)))(l4:K.lookup f4=some ⟨oc4,od4,.func (fnOf "set_of" "set_of" (bh (top 16)) (aW (top 16)) (aB (top 16)) .none kV4 dc4 pm4 an4 cd4 ct4),sl4⟩)(c4:codeIn K cd4 "set_of"=true)(k4:keepIn K (.ref f4)=true)
  (a5:nsIn K mainGlobals "is_stroke"=some (some (.ref f5)))(l5:K.lookup f5=some ⟨oc5,od5,.func (fnOf "is_stroke" "is_stroke" (bh (top 20)) (aW (top 20)) (aB (top 20)) .none kV5 dc5 pm5 an5 cd5 ct5),sl5⟩)(c5:codeIn K cd5 "is_stroke"=true)(k5:keepIn K (.ref f5)=true)
  (a6:nsIn K mainGlobals "lines_of"=some (some (.ref f6)))(l6:K.lookup f6=some ⟨oc6,od6,.func (fnOf "lines_of" "lines_of" (bh (top 21)) (aW (top 21)) (aB (top 21)) .none kV6 dc6 pm6 an6 cd6 ct6),sl6⟩)(c6:codeIn K cd6 "lines_of"=true)(k6:keepIn K (.ref f6)=true)
  (a7:nsIn K mainGlobals "length_of"=some (some (.ref f7)))(l7:K.lookup f7=some ⟨oc7,od7,.func (fnOf "length_of" "length_of" (bh (top 22)) (aW (top 22)) (aB (top 22)) .none kV7 dc7 pm7 an7 cd7 ct7),sl7⟩)(c7:codeIn K cd7 "length_of"=true)(k7:keepIn K (.ref f7)=true)
  (a8:nsIn K mainGlobals "lies_on"=some (some (.ref f8)))(l8:K.lookup f8=some ⟨oc8,od8,.func (fnOf "lies_on" "lies_on" (bh (top 23)) (aW (top 23)) (aB (top 23)) .none kV8 dc8 pm8 an8 cd8 ct8),sl8⟩)(c8:codeIn K cd8 "lies_on"=true)(k8:keepIn K (.ref f8)=true)
  (a9:nsIn K mainGlobals "stroke_cells"=some (some (.ref f9)))(l9:K.lookup f9=some ⟨oc9,od9,.func (fnOf "stroke_cells" "stroke_cells" (bh (top 24)) (aW (top 24)) (aB (top 24)) .none kV9 dc9 pm9 an9 cd9 ct9),sl9⟩)(c9:codeIn K cd9 "stroke_cells"=true)(k9:keepIn K (.ref f9)=true)
  (a10:nsIn K mainGlobals "cells_cut"=some (some (.ref f10)))(l10:K.lookup f10=some ⟨oc10,od10,.func (fnOf "cells_cut" "cells_cut" (bh (top 25)) (aW (top 25)) (aB (top 25)) .none kV10 dc10 pm10 an10 cd10 ct10),sl10⟩)(c10:codeIn K cd10 "cells_cut"=true)(k10:keepIn K (.ref f10)=true)
  (a11:nsIn K mainGlobals "check_new"=some (some (.ref f11)))(l11:K.lookup f11=some ⟨oc11,od11,.func (fnOf "check_new" "check_new" (bh (top 27)) (aW (top 27)) (aB (top 27)) .none kV11 dc11 pm11 an11 cd11 ct11),sl11⟩)(c11:codeIn K cd11 "check_new"=true)(k11:keepIn K (.ref f11)=true)
  (a12:nsIn K mainGlobals "check_there"=some (some (.ref f12)))(l12:K.lookup f12=some ⟨oc12,od12,.func (fnOf "check_there" "check_there" (bh (top 28)) (aW (top 28)) (aB (top 28)) .none kV12 dc12 pm12 an12 cd12 ct12),sl12⟩)(c12:codeIn K cd12 "check_there"=true)(k12:keepIn K (.ref f12)=true)
  (a13:nsIn K mainGlobals "_law_pool"=some (some (.ref f13)))(l13:K.lookup f13=some ⟨oc13,od13,.func (fnOf "_law_pool" "_law_pool" (bh (top 32)) (aW (top 32)) (aB (top 32)) .none kV13 dc13 pm13 an13 cd13 ct13),sl13⟩)(c13:codeIn K cd13 "_law_pool"=true)(k13:keepIn K (.ref f13)=true)
  (a14:nsIn K mainGlobals "_law_take"=some (some (.ref f14)))(l14:K.lookup f14=some ⟨oc14,od14,.func (fnOf "_law_take" "_law_take" (bh (top 33)) (aW (top 33)) (aB (top 33)) .none kV14 dc14 pm14 an14 cd14 ct14),sl14⟩)(c14:codeIn K cd14 "_law_take"=true)(k14:keepIn K (.ref f14)=true)
  (a15:nsIn K mainGlobals "_law_word"=some (some (.ref f15)))(l15:K.lookup f15=some ⟨oc15,od15,.func (fnOf "_law_word" "_law_word" (bh (top 34)) (aW (top 34)) (aB (top 34)) .none kV15 dc15 pm15 an15 cd15 ct15),sl15⟩)(c15:codeIn K cd15 "_law_word"=true)(k15:keepIn K (.ref f15)=true)
  (a16:nsIn K mainGlobals "_law_bench"=some (some (.ref f16)))(l16:K.lookup f16=some ⟨oc16,od16,.func (fnOf "_law_bench" "_law_bench" (bh (top 35)) (aW (top 35)) (aB (top 35)) .none kV16 dc16 pm16 an16 cd16 ct16),sl16⟩)(c16:codeIn K cd16 "_law_bench"=true)(k16:keepIn K (.ref f16)=true)
  (a17:nsIn K mainGlobals "_law_size"=some (some (.ref f17)))(l17:K.lookup f17=some ⟨oc17,od17,.func (fnOf "_law_size" "_law_size" (bh (top 36)) (aW (top 36)) (aB (top 36)) .none kV17 dc17 pm17 an17 cd17 ct17),sl17⟩)(c17:codeIn K cd17 "_law_size"=true)(k17:keepIn K (.ref f17)=true)
  (a18:nsIn K mainGlobals "_law_gone"=some (some (.ref f18)))(l18:K.lookup f18=some ⟨oc18,od18,.func (fnOf "_law_gone" "_law_gone" (bh (top 41)) (aW (top 41)) (aB (top 41)) .none kV18 dc18 pm18 an18 cd18 ct18),sl18⟩)(c18:codeIn K cd18 "_law_gone"=true)(k18:keepIn K (.ref f18)=true)
  (a19:nsIn K mainGlobals "_law_full"=some (some (.ref f19)))(l19:K.lookup f19=some ⟨oc19,od19,.func (fnOf "_law_full" "_law_full" (bh (top 42)) (aW (top 42)) (aB (top 42)) .none kV19 dc19 pm19 an19 cd19 ct19),sl19⟩)(c19:codeIn K cd19 "_law_full"=true)(k19:keepIn K (.ref f19)=true)
  (a20:nsIn K mainGlobals "_law_kind"=some (some (.ref f20)))(l20:K.lookup f20=some ⟨oc20,od20,.func (fnOf "_law_kind" "_law_kind" (bh (top 43)) (aW (top 43)) (aB (top 43)) .none kV20 dc20 pm20 an20 cd20 ct20),sl20⟩)(c20:codeIn K cd20 "_law_kind"=true)(k20:keepIn K (.ref f20)=true)
  (a21:nsIn K mainGlobals "_law_due"=some (some (.ref f21)))(l21:K.lookup f21=some ⟨oc21,od21,.func (fnOf "_law_due" "_law_due" (bh (top 44)) (aW (top 44)) (aB (top 44)) .none kV21 dc21 pm21 an21 cd21 ct21),sl21⟩)(c21:codeIn K cd21 "_law_due"=true)(k21:keepIn K (.ref f21)=true)
  (a22:nsIn K mainGlobals "_law_error"=some (some (.ref f22)))(l22:K.lookup f22=some ⟨oc22,od22,.func (fnOf "_law_error" "_law_error" (bh (top 45)) (aW (top 45)) (aB (top 45)) .none kV22 dc22 pm22 an22 cd22 ct22),sl22⟩)(c22:codeIn K cd22 "_law_error"=true)(k22:keepIn K (.ref f22)=true)
  (a23:nsIn K mainGlobals "_law_lies"=some (some (.ref f23)))(l23:K.lookup f23=some ⟨oc23,od23,.func (fnOf "_law_lies" "_law_lies" (bh (top 46)) (aW (top 46)) (aB (top 46)) .none kV23 dc23 pm23 an23 cd23 ct23),sl23⟩)(c23:codeIn K cd23 "_law_lies"=true)(k23:keepIn K (.ref f23)=true)
  (a24:nsIn K mainGlobals "_law_odd"=some (some (.ref f24)))(l24:K.lookup f24=some ⟨oc24,od24,.func (fnOf "_law_odd" "_law_odd" (bh (top 47)) (aW (top 47)) (aB (top 47)) .none kV24 dc24 pm24 an24 cd24 ct24),sl24⟩)(c24:codeIn K cd24 "_law_odd"=true)(k24:keepIn K (.ref f24)=true)
  (a25:nsIn K mainGlobals "law"=some (some (.ref f25)))(l25:K.lookup f25=some ⟨oc25,od25,.func (fnOf "law" "law" (bh (top 48)) (aW (top 48)) (aB (top 48)) .none kV25 dc25 pm25 an25 cd25 ct25),sl25⟩)(c25:codeIn K cd25 "law"=true)(k25:keepIn K (.ref f25)=true)
  {x_NoName x_Twice x_Shop x_NoStroke x_Wrong x_Order x_BlockError :Addr}
  {mf_Shop___init__:Addr}{mod_Shop___init__ man_Shop___init__:Option Addr}{msl_Shop___init__:Array (Option Value)}{moc_Shop___init__ mkV_Shop___init__ mdc_Shop___init__ mpm_Shop___init__ mcd_Shop___init__ mct_Shop___init__:Value}
  {mf_Shop_block:Addr}{mod_Shop_block man_Shop_block:Option Addr}{msl_Shop_block:Array (Option Value)}{moc_Shop_block mkV_Shop_block mdc_Shop_block mpm_Shop_block mcd_Shop_block mct_Shop_block:Value}
  {mf_Shop_cut:Addr}{mod_Shop_cut man_Shop_cut:Option Addr}{msl_Shop_cut:Array (Option Value)}{moc_Shop_cut mkV_Shop_cut mdc_Shop_cut mpm_Shop_cut mcd_Shop_cut mct_Shop_cut:Value}
  {mf_Shop_wood:Addr}{mod_Shop_wood man_Shop_wood:Option Addr}{msl_Shop_wood:Array (Option Value)}{moc_Shop_wood mkV_Shop_wood mdc_Shop_wood mpm_Shop_wood mcd_Shop_wood mct_Shop_wood:Value}
  {oc_Shop:Value}{od_Shop:Option Addr}{ocd_Shop:ClassData}{osl_Shop:Array (Option Value)}
  {dd_NoName:Option Addr}{cd_NoName:ClassData}{k0_NoName k1_NoName k2_NoName k3_NoName k5_NoName:Option Value}{bm_NoName:List Value}
  {dd_Twice:Option Addr}{cd_Twice:ClassData}{k0_Twice k1_Twice k2_Twice k3_Twice k5_Twice:Option Value}{bm_Twice:List Value}
  {dd_NoStroke:Option Addr}{cd_NoStroke:ClassData}{k0_NoStroke k1_NoStroke k2_NoStroke k3_NoStroke k5_NoStroke:Option Value}{bm_NoStroke:List Value}
  {qoc_BlockError:Value}{qod_BlockError:Option Addr}{qcd_BlockError:ClassData}{qsl_BlockError:Array (Option Value)}
  {qoc_NoName:Value}{qod_NoName:Option Addr}{qcd_NoName:ClassData}{qsl_NoName:Array (Option Value)}
  {qoc_NoStroke:Value}{qod_NoStroke:Option Addr}{qcd_NoStroke:ClassData}{qsl_NoStroke:Array (Option Value)}
  {qoc_Order:Value}{qod_Order:Option Addr}{qcd_Order:ClassData}{qsl_Order:Array (Option Value)}
  {qoc_Twice:Value}{qod_Twice:Option Addr}{qcd_Twice:ClassData}{qsl_Twice:Array (Option Value)}
  {qoc_Wrong:Value}{qod_Wrong:Option Addr}{qcd_Wrong:ClassData}{qsl_Wrong:Array (Option Value)}
  {toc_BlockError:Value}{tod_BlockError:Option Addr}{tcd_BlockError:ClassData}{tsl_BlockError:Array (Option Value)}
  (kj:nsIn K mainGlobals "ValueError"=some none)(Li:nsIn K mainGlobals "all"=some none)(DK:nsIn K mainGlobals "bool"=some none)(Lj:nsIn K mainGlobals "int"=some none)(km:nsIn K mainGlobals "isinstance"=some none)(Lk:nsIn K mainGlobals "len"=some none)(DN:nsIn K mainGlobals "list"=some none)(yI:nsIn K mainGlobals "range"=some none)(Ln:nsIn K mainGlobals "str"=some none)(yJ:nsIn K mainGlobals "tuple"=some none)(uW:nsIn K mainGlobals "COLUMN"=some (some (.str "column" t_COLUMN)))(qy:nsIn K mainGlobals "LETTERS"=some (some (.str "abcdefghijklmnopqrstuvwxyz" t_LETTERS)))(il:nsIn K mainGlobals "LONGEST_WORD"=some (some (.int 8 t_LONGEST_WORD)))(Lp:nsIn K mainGlobals "ROW"=some (some (.str "row" t_ROW)))(nx_NoName:nsIn K mainGlobals "NoName"=some (some (.ref x_NoName)))(nx_Twice:nsIn K mainGlobals "Twice"=some (some (.ref x_Twice)))(nx_Shop:nsIn K mainGlobals "Shop"=some (some (.ref x_Shop)))(nx_NoStroke:nsIn K mainGlobals "NoStroke"=some (some (.ref x_NoStroke)))(nx_Wrong:nsIn K mainGlobals "Wrong"=some (some (.ref x_Wrong)))(nx_Order:nsIn K mainGlobals "Order"=some (some (.ref x_Order)))(nx_BlockError:nsIn K mainGlobals "BlockError"=some (some (.ref x_BlockError)))(lx_NoName:K.lookup x_NoName=some ⟨.type "type",dd_NoName,.cls cd_NoName,#[k0_NoName,k1_NoName,k2_NoName,k3_NoName,some (.builtin "ValueError.__new__"),k5_NoName]⟩)(h1_NoName:cd_NoName.hasDel=false)(h2_NoName:cd_NoName.hasDict=true)(h3_NoName:cd_NoName.mro=.ref x_NoName::bm_NoName)(h4_NoName:ji bm_NoName=true)(h5_NoName:cd_NoName.name="NoName")(in_NoName:PySem.W.findIn K (.ref x_NoName) "__init__"=some (some (.builtin "ValueError.__init__")))(kp_NoName:keepIn K (.ref x_NoName)=true)(xa_NoName:PySem.W.findIn K (.ref x_NoName) "__getattribute__"=some (some (.builtin "BaseException.__getattribute__")))(xg_NoName:PySem.W.findIn K (.ref x_NoName) "__getattr__"=some none)(xh_NoName:PySem.W.subIn K (.ref x_NoName) (.type "BaseException")=some true)(sf_NoName:PySem.W.subIn K (.ref x_NoName) (.ref x_NoName)=some true)(xb_NoName:PySem.W.hasDictIn K x_NoName=true)(xc_NoName:PySem.W.findIn K (.ref x_NoName) "__class__"=some (some (.builtin "object.__class__")))(xd_NoName:PySem.W.specialIn K (.builtin "object.__class__") "__get__"=some (some (.builtin "getset_descriptor.__get__")))(xe_NoName:PySem.W.takesIn K (.builtin "object.__class__")=some true)(xf_NoName:PySem.W.mroIn K x_NoName (.type "object")=some true)(lx_Twice:K.lookup x_Twice=some ⟨.type "type",dd_Twice,.cls cd_Twice,#[k0_Twice,k1_Twice,k2_Twice,k3_Twice,some (.builtin "ValueError.__new__"),k5_Twice]⟩)(h1_Twice:cd_Twice.hasDel=false)(h2_Twice:cd_Twice.hasDict=true)(h3_Twice:cd_Twice.mro=.ref x_Twice::bm_Twice)(h4_Twice:ji bm_Twice=true)(h5_Twice:cd_Twice.name="Twice")(in_Twice:PySem.W.findIn K (.ref x_Twice) "__init__"=some (some (.builtin "ValueError.__init__")))(kp_Twice:keepIn K (.ref x_Twice)=true)(xa_Twice:PySem.W.findIn K (.ref x_Twice) "__getattribute__"=some (some (.builtin "BaseException.__getattribute__")))(xg_Twice:PySem.W.findIn K (.ref x_Twice) "__getattr__"=some none)(xh_Twice:PySem.W.subIn K (.ref x_Twice) (.type "BaseException")=some true)(sf_Twice:PySem.W.subIn K (.ref x_Twice) (.ref x_Twice)=some true)(xb_Twice:PySem.W.hasDictIn K x_Twice=true)(xc_Twice:PySem.W.findIn K (.ref x_Twice) "__class__"=some (some (.builtin "object.__class__")))(xd_Twice:PySem.W.specialIn K (.builtin "object.__class__") "__get__"=some (some (.builtin "getset_descriptor.__get__")))(xe_Twice:PySem.W.takesIn K (.builtin "object.__class__")=some true)(xf_Twice:PySem.W.mroIn K x_Twice (.type "object")=some true)(lx_NoStroke:K.lookup x_NoStroke=some ⟨.type "type",dd_NoStroke,.cls cd_NoStroke,#[k0_NoStroke,k1_NoStroke,k2_NoStroke,k3_NoStroke,some (.builtin "ValueError.__new__"),k5_NoStroke]⟩)(h1_NoStroke:cd_NoStroke.hasDel=false)(h2_NoStroke:cd_NoStroke.hasDict=true)(h3_NoStroke:cd_NoStroke.mro=.ref x_NoStroke::bm_NoStroke)(h4_NoStroke:ji bm_NoStroke=true)(h5_NoStroke:cd_NoStroke.name="NoStroke")(in_NoStroke:PySem.W.findIn K (.ref x_NoStroke) "__init__"=some (some (.builtin "ValueError.__init__")))(kp_NoStroke:keepIn K (.ref x_NoStroke)=true)(xa_NoStroke:PySem.W.findIn K (.ref x_NoStroke) "__getattribute__"=some (some (.builtin "BaseException.__getattribute__")))(xg_NoStroke:PySem.W.findIn K (.ref x_NoStroke) "__getattr__"=some none)(xh_NoStroke:PySem.W.subIn K (.ref x_NoStroke) (.type "BaseException")=some true)(sf_NoStroke:PySem.W.subIn K (.ref x_NoStroke) (.ref x_NoStroke)=some true)(xb_NoStroke:PySem.W.hasDictIn K x_NoStroke=true)(xc_NoStroke:PySem.W.findIn K (.ref x_NoStroke) "__class__"=some (some (.builtin "object.__class__")))(xd_NoStroke:PySem.W.specialIn K (.builtin "object.__class__") "__get__"=some (some (.builtin "getset_descriptor.__get__")))(xe_NoStroke:PySem.W.takesIn K (.builtin "object.__class__")=some true)(xf_NoStroke:PySem.W.mroIn K x_NoStroke (.type "object")=some true)(tl_BlockError:K.lookup x_BlockError=some ⟨toc_BlockError,tod_BlockError,.cls tcd_BlockError,tsl_BlockError⟩)(tn_BlockError:PySem.W.instIn K (.ref x_BlockError) (.type "tuple")=some false)(tb_BlockError:PySem.W.subIn K (.ref x_BlockError) (.type "BaseException")=some true)(s_NoName_BlockError:PySem.W.subIn K (.ref x_NoName) (.ref x_BlockError)=some true)(s_Twice_BlockError:PySem.W.subIn K (.ref x_Twice) (.ref x_BlockError)=some true)(s_NoStroke_BlockError:PySem.W.subIn K (.ref x_NoStroke) (.ref x_BlockError)=some true)(ql_BlockError:K.lookup x_BlockError=some ⟨qoc_BlockError,qod_BlockError,.cls qcd_BlockError,qsl_BlockError⟩)(qt_BlockError:PySem.W.typeIn K (.ref x_BlockError)=some (.type "type"))(qn_BlockError:PySem.W.subIn K (.type "NoneType") (.ref x_BlockError)=some false)(qs_NoName_BlockError:PySem.W.subIn K (.ref x_NoName) (.ref x_BlockError)=some true)(qs_Twice_BlockError:PySem.W.subIn K (.ref x_Twice) (.ref x_BlockError)=some true)(qs_NoStroke_BlockError:PySem.W.subIn K (.ref x_NoStroke) (.ref x_BlockError)=some true)(ql_NoName:K.lookup x_NoName=some ⟨qoc_NoName,qod_NoName,.cls qcd_NoName,qsl_NoName⟩)(qt_NoName:PySem.W.typeIn K (.ref x_NoName)=some (.type "type"))(qn_NoName:PySem.W.subIn K (.type "NoneType") (.ref x_NoName)=some false)(qs_NoName_NoName:PySem.W.subIn K (.ref x_NoName) (.ref x_NoName)=some true)(qs_Twice_NoName:PySem.W.subIn K (.ref x_Twice) (.ref x_NoName)=some false)(qs_NoStroke_NoName:PySem.W.subIn K (.ref x_NoStroke) (.ref x_NoName)=some false)(ql_NoStroke:K.lookup x_NoStroke=some ⟨qoc_NoStroke,qod_NoStroke,.cls qcd_NoStroke,qsl_NoStroke⟩)(qt_NoStroke:PySem.W.typeIn K (.ref x_NoStroke)=some (.type "type"))(qn_NoStroke:PySem.W.subIn K (.type "NoneType") (.ref x_NoStroke)=some false)(qs_NoName_NoStroke:PySem.W.subIn K (.ref x_NoName) (.ref x_NoStroke)=some false)(qs_Twice_NoStroke:PySem.W.subIn K (.ref x_Twice) (.ref x_NoStroke)=some false)(qs_NoStroke_NoStroke:PySem.W.subIn K (.ref x_NoStroke) (.ref x_NoStroke)=some true)(ql_Order:K.lookup x_Order=some ⟨qoc_Order,qod_Order,.cls qcd_Order,qsl_Order⟩)(qt_Order:PySem.W.typeIn K (.ref x_Order)=some (.type "type"))(qn_Order:PySem.W.subIn K (.type "NoneType") (.ref x_Order)=some false)(qs_NoName_Order:PySem.W.subIn K (.ref x_NoName) (.ref x_Order)=some false)(qs_Twice_Order:PySem.W.subIn K (.ref x_Twice) (.ref x_Order)=some false)(qs_NoStroke_Order:PySem.W.subIn K (.ref x_NoStroke) (.ref x_Order)=some false)(ql_Twice:K.lookup x_Twice=some ⟨qoc_Twice,qod_Twice,.cls qcd_Twice,qsl_Twice⟩)(qt_Twice:PySem.W.typeIn K (.ref x_Twice)=some (.type "type"))(qn_Twice:PySem.W.subIn K (.type "NoneType") (.ref x_Twice)=some false)(qs_NoName_Twice:PySem.W.subIn K (.ref x_NoName) (.ref x_Twice)=some false)(qs_Twice_Twice:PySem.W.subIn K (.ref x_Twice) (.ref x_Twice)=some true)(qs_NoStroke_Twice:PySem.W.subIn K (.ref x_NoStroke) (.ref x_Twice)=some false)(ql_Wrong:K.lookup x_Wrong=some ⟨qoc_Wrong,qod_Wrong,.cls qcd_Wrong,qsl_Wrong⟩)(qt_Wrong:PySem.W.typeIn K (.ref x_Wrong)=some (.type "type"))(qn_Wrong:PySem.W.subIn K (.type "NoneType") (.ref x_Wrong)=some false)(qs_NoName_Wrong:PySem.W.subIn K (.ref x_NoName) (.ref x_Wrong)=some false)(qs_Twice_Wrong:PySem.W.subIn K (.ref x_Twice) (.ref x_Wrong)=some false)(qs_NoStroke_Wrong:PySem.W.subIn K (.ref x_NoStroke) (.ref x_Wrong)=some false)(ol_Shop:K.lookup x_Shop=some ⟨oc_Shop,od_Shop,.cls ocd_Shop,osl_Shop⟩)(on_Shop:ocd_Shop.name="Shop")(op_Shop:PySem.W.plainGet K x_Shop Str.empty=true)(oh_Shop:PySem.W.hasDictIn K x_Shop=true)(ov_Shop:PySem.W.plainOver K x_Shop=true)(os_Shop:PySem.W.findIn K (.ref x_Shop) "__setattr__"=some (some (.builtin "object.__setattr__")))(oa_Shop_bench:PySem.W.findIn K (.ref x_Shop) "bench"=some none)(oa_Shop_size:PySem.W.findIn K (.ref x_Shop) "size"=some none)(oa_Shop_states:PySem.W.findIn K (.ref x_Shop) "states"=some none)(oa_Shop_woods:PySem.W.findIn K (.ref x_Shop) "woods"=some none)(oa_Shop_prints:PySem.W.findIn K (.ref x_Shop) "prints"=some none)(mA_Shop___init__:PySem.W.findIn K (.ref x_Shop) "__init__"=some (some (.ref mf_Shop___init__)))(mB_Shop___init__:isFn K (.ref mf_Shop___init__)=true)(mC_Shop___init__:PySem.W.makesIn K x_Shop=true)(mD_Shop___init__:keepIn K (.ref x_Shop)=true)(mL_Shop___init__:K.lookup mf_Shop___init__=some ⟨moc_Shop___init__,mod_Shop___init__,.func (fnOf "__init__" "Shop.__init__" (bh (inClass (top 29) 0)) (aW (inClass (top 29) 0)) (aB (inClass (top 29) 0)) .none mkV_Shop___init__ mdc_Shop___init__ mpm_Shop___init__ man_Shop___init__ mcd_Shop___init__ mct_Shop___init__),msl_Shop___init__⟩)(mE_Shop___init__:codeIn K mcd_Shop___init__ "Shop.__init__"=true)(mK_Shop___init__:keepIn K (.ref mf_Shop___init__)=true)(mA_Shop_block:PySem.W.findIn K (.ref x_Shop) "block"=some (some (.ref mf_Shop_block)))(mB_Shop_block:isFn K (.ref mf_Shop_block)=true)(mL_Shop_block:K.lookup mf_Shop_block=some ⟨moc_Shop_block,mod_Shop_block,.func (fnOf "block" "Shop.block" (bh (inClass (top 29) 1)) (aW (inClass (top 29) 1)) (aB (inClass (top 29) 1)) .none mkV_Shop_block mdc_Shop_block mpm_Shop_block man_Shop_block mcd_Shop_block mct_Shop_block),msl_Shop_block⟩)(mE_Shop_block:codeIn K mcd_Shop_block "Shop.block"=true)(mK_Shop_block:keepIn K (.ref mf_Shop_block)=true)(mA_Shop_cut:PySem.W.findIn K (.ref x_Shop) "cut"=some (some (.ref mf_Shop_cut)))(mB_Shop_cut:isFn K (.ref mf_Shop_cut)=true)(mL_Shop_cut:K.lookup mf_Shop_cut=some ⟨moc_Shop_cut,mod_Shop_cut,.func (fnOf "cut" "Shop.cut" (bh (inClass (top 29) 4)) (aW (inClass (top 29) 4)) (aB (inClass (top 29) 4)) .none mkV_Shop_cut mdc_Shop_cut mpm_Shop_cut man_Shop_cut mcd_Shop_cut mct_Shop_cut),msl_Shop_cut⟩)(mE_Shop_cut:codeIn K mcd_Shop_cut "Shop.cut"=true)(mK_Shop_cut:keepIn K (.ref mf_Shop_cut)=true)(mA_Shop_wood:PySem.W.findIn K (.ref x_Shop) "wood"=some (some (.ref mf_Shop_wood)))(mB_Shop_wood:isFn K (.ref mf_Shop_wood)=true)(mL_Shop_wood:K.lookup mf_Shop_wood=some ⟨moc_Shop_wood,mod_Shop_wood,.func (fnOf "wood" "Shop.wood" (bh (inClass (top 29) 6)) (aW (inClass (top 29) 6)) (aB (inClass (top 29) 6)) .none mkV_Shop_wood mdc_Shop_wood mpm_Shop_wood man_Shop_wood mcd_Shop_wood mct_Shop_wood),msl_Shop_wood⟩)(mE_Shop_wood:codeIn K mcd_Shop_wood "Shop.wood"=true)(mK_Shop_wood:keepIn K (.ref mf_Shop_wood)=true)(qb_NoName_ValueError:PySem.W.subIn K (.ref x_NoName) (.type "ValueError")=some true)(qb_Twice_ValueError:PySem.W.subIn K (.ref x_Twice) (.type "ValueError")=some true)(qb_NoStroke_ValueError:PySem.W.subIn K (.ref x_NoStroke) (.type "ValueError")=some true) :
  ∃ fd:FuncData,(∀ (s:Shared) (v:Value),BindsTo s fd ⟨[v],[]⟩ [("_law_script",v)])/\∀ base:Heap,K.In base->base.Ns mainGlobals mg->jg l.prog w K mg base CX0 6 fa fd ["_law_script"] (spM K XR0 wg):=by
 have e:=hfa.symm.trans (Zag X G a25);cases e;have T:Txt mg:=⟨trivial,ZaH X G kj,ZaH X G Li,ZaH X G DK,ZaH X G Lj,ZaH X G km,ZaH X G Lk,ZaH X G DN,ZaH X G yI,ZaH X G Ln,ZaH X G yJ,⟨_,Zag X G uW⟩,⟨_,Zag X G qy⟩,⟨_,Zag X G il⟩,⟨_,Zag X G Lp⟩⟩;have U_NoName:qP K mg "NoName" x_NoName:=⟨xM lx_NoName h1_NoName h2_NoName h3_NoName h4_NoName in_NoName kp_NoName,xK nx_NoName lx_NoName h5_NoName,⟨xa_NoName,xg_NoName,xh_NoName,xb_NoName,xc_NoName,xd_NoName,xe_NoName,xf_NoName⟩,Zag X G nx_NoName⟩;have U_Twice:qP K mg "Twice" x_Twice:=⟨xM lx_Twice h1_Twice h2_Twice h3_Twice h4_Twice in_Twice kp_Twice,xK nx_Twice lx_Twice h5_Twice,⟨xa_Twice,xg_Twice,xh_Twice,xb_Twice,xc_Twice,xd_Twice,xe_Twice,xf_Twice⟩,Zag X G nx_Twice⟩;have U_NoStroke:qP K mg "NoStroke" x_NoStroke:=⟨xM lx_NoStroke h1_NoStroke h2_NoStroke h3_NoStroke h4_NoStroke in_NoStroke kp_NoStroke,xK nx_NoStroke lx_NoStroke h5_NoStroke,⟨xa_NoStroke,xg_NoStroke,xh_NoStroke,xb_NoStroke,xc_NoStroke,xd_NoStroke,xe_NoStroke,xf_NoStroke⟩,Zag X G nx_NoStroke⟩;have QN_BlockError:PySem.W.kitOne K (.type "NoneType") (.ref x_BlockError)=some false:=aY ⟨⟨_,_,_,_,ql_BlockError⟩,qt_BlockError⟩ qn_BlockError (λh=>by cases h)
 have QS_NoName_BlockError:PySem.W.kitOne K (.ref x_NoName) (.ref x_BlockError)=some true:=aY ⟨⟨_,_,_,_,ql_BlockError⟩,qt_BlockError⟩ qs_NoName_BlockError (λ_=>rfl);have QS_Twice_BlockError:PySem.W.kitOne K (.ref x_Twice) (.ref x_BlockError)=some true:=aY ⟨⟨_,_,_,_,ql_BlockError⟩,qt_BlockError⟩ qs_Twice_BlockError (λ_=>rfl);have QS_NoStroke_BlockError:PySem.W.kitOne K (.ref x_NoStroke) (.ref x_BlockError)=some true:=aY ⟨⟨_,_,_,_,ql_BlockError⟩,qt_BlockError⟩ qs_NoStroke_BlockError (λ_=>rfl);have QN_NoName:PySem.W.kitOne K (.type "NoneType") (.ref x_NoName)=some false:=aY ⟨⟨_,_,_,_,ql_NoName⟩,qt_NoName⟩ qn_NoName (λh=>by cases h)
 have QS_NoName_NoName:PySem.W.kitOne K (.ref x_NoName) (.ref x_NoName)=some true:=aY ⟨⟨_,_,_,_,ql_NoName⟩,qt_NoName⟩ qs_NoName_NoName (λ_=>rfl);have QS_Twice_NoName:PySem.W.kitOne K (.ref x_Twice) (.ref x_NoName)=some false:=aY ⟨⟨_,_,_,_,ql_NoName⟩,qt_NoName⟩ qs_Twice_NoName (λh=>by rw[<-ZaN h,sf_Twice] at qs_Twice_NoName;cases qs_Twice_NoName)
 have QS_NoStroke_NoName:PySem.W.kitOne K (.ref x_NoStroke) (.ref x_NoName)=some false:=aY ⟨⟨_,_,_,_,ql_NoName⟩,qt_NoName⟩ qs_NoStroke_NoName (λh=>by rw[<-ZaN h,sf_NoStroke] at qs_NoStroke_NoName;cases qs_NoStroke_NoName)
 have QN_NoStroke:PySem.W.kitOne K (.type "NoneType") (.ref x_NoStroke)=some false:=aY ⟨⟨_,_,_,_,ql_NoStroke⟩,qt_NoStroke⟩ qn_NoStroke (λh=>by cases h)
 have QS_NoName_NoStroke:PySem.W.kitOne K (.ref x_NoName) (.ref x_NoStroke)=some false:=aY ⟨⟨_,_,_,_,ql_NoStroke⟩,qt_NoStroke⟩ qs_NoName_NoStroke (λh=>by rw[<-ZaN h,sf_NoName] at qs_NoName_NoStroke;cases qs_NoName_NoStroke)
 have QS_Twice_NoStroke:PySem.W.kitOne K (.ref x_Twice) (.ref x_NoStroke)=some false:=aY ⟨⟨_,_,_,_,ql_NoStroke⟩,qt_NoStroke⟩ qs_Twice_NoStroke (λh=>by rw[<-ZaN h,sf_Twice] at qs_Twice_NoStroke;cases qs_Twice_NoStroke)
 have QS_NoStroke_NoStroke:PySem.W.kitOne K (.ref x_NoStroke) (.ref x_NoStroke)=some true:=aY ⟨⟨_,_,_,_,ql_NoStroke⟩,qt_NoStroke⟩ qs_NoStroke_NoStroke (λ_=>rfl);have QN_Order:PySem.W.kitOne K (.type "NoneType") (.ref x_Order)=some false:=aY ⟨⟨_,_,_,_,ql_Order⟩,qt_Order⟩ qn_Order (λh=>by cases h)
 have QS_NoName_Order:PySem.W.kitOne K (.ref x_NoName) (.ref x_Order)=some false:=aY ⟨⟨_,_,_,_,ql_Order⟩,qt_Order⟩ qs_NoName_Order (λh=>by rw[<-ZaN h,sf_NoName] at qs_NoName_Order;cases qs_NoName_Order)
 have QS_Twice_Order:PySem.W.kitOne K (.ref x_Twice) (.ref x_Order)=some false:=aY ⟨⟨_,_,_,_,ql_Order⟩,qt_Order⟩ qs_Twice_Order (λh=>by rw[<-ZaN h,sf_Twice] at qs_Twice_Order;cases qs_Twice_Order)
 have QS_NoStroke_Order:PySem.W.kitOne K (.ref x_NoStroke) (.ref x_Order)=some false:=aY ⟨⟨_,_,_,_,ql_Order⟩,qt_Order⟩ qs_NoStroke_Order (λh=>by rw[<-ZaN h,sf_NoStroke] at qs_NoStroke_Order;cases qs_NoStroke_Order)
 have QN_Twice:PySem.W.kitOne K (.type "NoneType") (.ref x_Twice)=some false:=aY ⟨⟨_,_,_,_,ql_Twice⟩,qt_Twice⟩ qn_Twice (λh=>by cases h)
 have QS_NoName_Twice:PySem.W.kitOne K (.ref x_NoName) (.ref x_Twice)=some false:=aY ⟨⟨_,_,_,_,ql_Twice⟩,qt_Twice⟩ qs_NoName_Twice (λh=>by rw[<-ZaN h,sf_NoName] at qs_NoName_Twice;cases qs_NoName_Twice)
 have QS_Twice_Twice:PySem.W.kitOne K (.ref x_Twice) (.ref x_Twice)=some true:=aY ⟨⟨_,_,_,_,ql_Twice⟩,qt_Twice⟩ qs_Twice_Twice (λ_=>rfl);have QS_NoStroke_Twice:PySem.W.kitOne K (.ref x_NoStroke) (.ref x_Twice)=some false:=aY ⟨⟨_,_,_,_,ql_Twice⟩,qt_Twice⟩ qs_NoStroke_Twice (λh=>by rw[<-ZaN h,sf_NoStroke] at qs_NoStroke_Twice;cases qs_NoStroke_Twice)
 have QN_Wrong:PySem.W.kitOne K (.type "NoneType") (.ref x_Wrong)=some false:=aY ⟨⟨_,_,_,_,ql_Wrong⟩,qt_Wrong⟩ qn_Wrong (λh=>by cases h)
 have QS_NoName_Wrong:PySem.W.kitOne K (.ref x_NoName) (.ref x_Wrong)=some false:=aY ⟨⟨_,_,_,_,ql_Wrong⟩,qt_Wrong⟩ qs_NoName_Wrong (λh=>by rw[<-ZaN h,sf_NoName] at qs_NoName_Wrong;cases qs_NoName_Wrong)
 have QS_Twice_Wrong:PySem.W.kitOne K (.ref x_Twice) (.ref x_Wrong)=some false:=aY ⟨⟨_,_,_,_,ql_Wrong⟩,qt_Wrong⟩ qs_Twice_Wrong (λh=>by rw[<-ZaN h,sf_Twice] at qs_Twice_Wrong;cases qs_Twice_Wrong)
 have QS_NoStroke_Wrong:PySem.W.kitOne K (.ref x_NoStroke) (.ref x_Wrong)=some false:=aY ⟨⟨_,_,_,_,ql_Wrong⟩,qt_Wrong⟩ qs_NoStroke_Wrong (λh=>by rw[<-ZaN h,sf_NoStroke] at qs_NoStroke_Wrong;cases qs_NoStroke_Wrong)
 have Z:Xt K mg ⟨x_NoName,x_Twice,x_Shop,x_NoStroke,x_Wrong,x_Order,x_BlockError⟩:=⟨U_NoName,U_Twice,U_NoStroke,⟨nx_Shop,⟨op_Shop,oh_Shop,ov_Shop,os_Shop⟩⟩,(xK nx_Shop ol_Shop on_Shop),oa_Shop_bench,oa_Shop_size,oa_Shop_states,oa_Shop_woods,oa_Shop_prints,nx_NoName,Zag X G nx_NoName,nx_Twice,Zag X G nx_Twice,nx_Shop,Zag X G nx_Shop,nx_NoStroke,Zag X G nx_NoStroke,nx_Wrong,Zag X G nx_Wrong,nx_Order,Zag X G nx_Order,nx_BlockError,Zag X G nx_BlockError,⟨⟨_,_,_,_,tl_BlockError⟩,tn_BlockError,tb_BlockError⟩,s_NoName_BlockError,s_Twice_BlockError,s_NoStroke_BlockError,QN_BlockError,QS_NoName_BlockError,QS_Twice_BlockError,QS_NoStroke_BlockError,QN_NoName,QS_NoName_NoName,QS_Twice_NoName,QS_NoStroke_NoName,QN_NoStroke,QS_NoName_NoStroke,QS_Twice_NoStroke,QS_NoStroke_NoStroke,QN_Order,QS_NoName_Order,QS_Twice_Order,QS_NoStroke_Order,QN_Twice,QS_NoName_Twice,QS_Twice_Twice,QS_NoStroke_Twice,QN_Wrong,QS_NoName_Wrong,QS_Twice_Wrong,QS_NoStroke_Wrong,(by kernel_rfl),(qb (by kernel_rfl) qb_NoName_ValueError),(qb (by kernel_rfl) qb_Twice_ValueError),(qb (by kernel_rfl) qb_NoStroke_ValueError)⟩
 have F0:=bN (st:=top 11) l0 c0 k0;have D0:bw K mg "is_word" (top 11) ["text"]:=⟨⟨_,_,Zag X G a0,F0,F0.binds λ_ _ _ _ _ _ us hl=>by obtain⟨_,rfl⟩:=uc hl;rfl⟩⟩
 have F1:=bN (st:=top 13) l1 c1 k1;have D1:bw K mg "is_whole" (top 13) ["thing"]:=⟨⟨_,_,Zag X G a1,F1,F1.binds λ_ _ _ _ _ _ us hl=>by obtain⟨_,rfl⟩:=uc hl;rfl⟩⟩
 have F2:=bN (st:=top 14) l2 c2 k2;have D2:bw K mg "place_of" (top 14) ["size","cell"]:=⟨⟨_,_,Zag X G a2,F2,F2.binds λ_ _ _ _ _ _ us hl=>by obtain⟨_,_,rfl⟩:=lK hl;rfl⟩⟩
 have F3:=bN (st:=top 15) l3 c3 k3;have D3:bw K mg "all_of" (top 15) ["size"]:=⟨⟨_,_,Zag X G a3,F3,F3.binds λ_ _ _ _ _ _ us hl=>by obtain⟨_,rfl⟩:=uc hl;rfl⟩⟩
 have F4:=bN (st:=top 16) l4 c4 k4;have D4:bw K mg "set_of" (top 16) ["size","cells"]:=⟨⟨_,_,Zag X G a4,F4,F4.binds λ_ _ _ _ _ _ us hl=>by obtain⟨_,_,rfl⟩:=lK hl;rfl⟩⟩
 have F5:=bN (st:=top 20) l5 c5 k5;have D5:bw K mg "is_stroke" (top 20) ["thing"]:=⟨⟨_,_,Zag X G a5,F5,F5.binds λ_ _ _ _ _ _ us hl=>by obtain⟨_,rfl⟩:=uc hl;rfl⟩⟩
 have F6:=bN (st:=top 21) l6 c6 k6;have D6:bw K mg "lines_of" (top 21) ["size","kind"]:=⟨⟨_,_,Zag X G a6,F6,F6.binds λ_ _ _ _ _ _ us hl=>by obtain⟨_,_,rfl⟩:=lK hl;rfl⟩⟩
 have F7:=bN (st:=top 22) l7 c7 k7;have D7:bw K mg "length_of" (top 22) ["size","kind"]:=⟨⟨_,_,Zag X G a7,F7,F7.binds λ_ _ _ _ _ _ us hl=>by obtain⟨_,_,rfl⟩:=lK hl;rfl⟩⟩
 have F8:=bN (st:=top 23) l8 c8 k8;have D8:bw K mg "lies_on" (top 23) ["size","thing"]:=⟨⟨_,_,Zag X G a8,F8,F8.binds λ_ _ _ _ _ _ us hl=>by obtain⟨_,_,rfl⟩:=lK hl;rfl⟩⟩
 have F9:=bN (st:=top 24) l9 c9 k9;have D9:bw K mg "stroke_cells" (top 24) ["stroke"]:=⟨⟨_,_,Zag X G a9,F9,F9.binds λ_ _ _ _ _ _ us hl=>by obtain⟨_,rfl⟩:=uc hl;rfl⟩⟩
 have F10:=bN (st:=top 25) l10 c10 k10;have D10:bw K mg "cells_cut" (top 25) ["size","stroke"]:=⟨⟨_,_,Zag X G a10,F10,F10.binds λ_ _ _ _ _ _ us hl=>by obtain⟨_,_,rfl⟩:=lK hl;rfl⟩⟩
 have F11:=bN (st:=top 27) l11 c11 k11;have D11:bw K mg "check_new" (top 27) ["kept","name"]:=⟨⟨_,_,Zag X G a11,F11,F11.binds λ_ _ _ _ _ _ us hl=>by obtain⟨_,_,rfl⟩:=lK hl;rfl⟩⟩
 have F12:=bN (st:=top 28) l12 c12 k12;have D12:bw K mg "check_there" (top 28) ["kept","name"]:=⟨⟨_,_,Zag X G a12,F12,F12.binds λ_ _ _ _ _ _ us hl=>by obtain⟨_,_,rfl⟩:=lK hl;rfl⟩⟩
 have F13:=bN (st:=top 32) l13 c13 k13;have D13:bw K mg "_law_pool" (top 32) ["_law_script","_law_k"]:=⟨⟨_,_,Zag X G a13,F13,F13.binds λ_ _ _ _ _ _ us hl=>by obtain⟨_,_,rfl⟩:=lK hl;rfl⟩⟩
 have F14:=bN (st:=top 33) l14 c14 k14;have D14:bw K mg "_law_take" (top 33) ["_law_pool_here","_law_many"]:=⟨⟨_,_,Zag X G a14,F14,F14.binds λ_ _ _ _ _ _ us hl=>by obtain⟨_,_,rfl⟩:=lK hl;rfl⟩⟩
 have F15:=bN (st:=top 34) l15 c15 k15;have D15:bw K mg "_law_word" (top 34) ["_law_place","_law_k"]:=⟨⟨_,_,Zag X G a15,F15,F15.binds λ_ _ _ _ _ _ us hl=>by obtain⟨_,_,rfl⟩:=lK hl;rfl⟩⟩
 have F16:=bN (st:=top 35) l16 c16 k16;have D16:bw K mg "_law_bench" (top 35) ["_law_pool_here"]:=⟨⟨_,_,Zag X G a16,F16,F16.binds λ_ _ _ _ _ _ us hl=>by obtain⟨_,rfl⟩:=uc hl;rfl⟩⟩
 have F17:=bN (st:=top 36) l17 c17 k17;have D17:bw K mg "_law_size" (top 36) ["_law_pool_here"]:=⟨⟨_,_,Zag X G a17,F17,F17.binds λ_ _ _ _ _ _ us hl=>by obtain⟨_,rfl⟩:=uc hl;rfl⟩⟩
 have F18:=bN (st:=top 41) l18 c18 k18;have D18:bw K mg "_law_gone" (top 41) ["_law_size_here","_law_stroke"]:=⟨⟨_,_,Zag X G a18,F18,F18.binds λ_ _ _ _ _ _ us hl=>by obtain⟨_,_,rfl⟩:=lK hl;rfl⟩⟩
 have F19:=bN (st:=top 42) l19 c19 k19;have D19:bw K mg "_law_full" (top 42) ["_law_size_here"]:=⟨⟨_,_,Zag X G a19,F19,F19.binds λ_ _ _ _ _ _ us hl=>by obtain⟨_,rfl⟩:=uc hl;rfl⟩⟩
 have F20:=bN (st:=top 43) l20 c20 k20;have D20:bw K mg "_law_kind" (top 43) ["_law_error_here"]:=⟨⟨_,_,Zag X G a20,F20,F20.binds λ_ _ _ _ _ _ us hl=>by obtain⟨_,rfl⟩:=uc hl;rfl⟩⟩
 have F21:=bN (st:=top 44) l21 c21 k21;have D21:bw K mg "_law_due" (top 44) ["_law_word_here"]:=⟨⟨_,_,Zag X G a21,F21,F21.binds λ_ _ _ _ _ _ us hl=>by obtain⟨_,rfl⟩:=uc hl;rfl⟩⟩
 have F22:=bN (st:=top 45) l22 c22 k22;have D22:bw K mg "_law_error" (top 45) ["_law_shop","_law_name","_law_thing"]:=⟨⟨_,_,Zag X G a22,F22,F22.binds λ_ _ _ _ _ _ us hl=>by obtain⟨_,_,_,rfl⟩:=Ru hl;rfl⟩⟩
 have F23:=bN (st:=top 46) l23 c23 k23;have D23:bw K mg "_law_lies" (top 46) ["_law_size_here","_law_stroke"]:=⟨⟨_,_,Zag X G a23,F23,F23.binds λ_ _ _ _ _ _ us hl=>by obtain⟨_,_,rfl⟩:=lK hl;rfl⟩⟩
 have F24:=bN (st:=top 47) l24 c24 k24;have D24:bw K mg "_law_odd" (top 47) ["_law_cell","_law_stroke"]:=⟨⟨_,_,Zag X G a24,F24,F24.binds λ_ _ _ _ _ _ us hl=>by obtain⟨_,_,rfl⟩:=lK hl;rfl⟩⟩
 have F25:=bN (st:=top 48) l25 c25 k25;refine⟨fnOf "law" "law" (bh (top 48)) (aW (top 48)) (aB (top 48)) .none kV25 dc25 pm25 an25 cd25 ct25,λs v=>.of_eq rfl,λbase _ _=>?_⟩;have G0:=Do (P:=l.prog) (w:=w) (base:=base) T D0 Z;have G1:=Aw (P:=l.prog) (w:=w) (base:=base) T D1 Z;have G2:=Ay (P:=l.prog) (w:=w) (base:=base) T D2 Z;have G3:=Ib (P:=l.prog) (w:=w) (base:=base) T D3 Z;have G4:=Ie (P:=l.prog) (w:=w) (base:=base) T D4 Z G2;have G5:=yp (P:=l.prog) (w:=w) (base:=base) T D5 Z G1;have G6:=Ba (P:=l.prog) (w:=w) (base:=base) T D6 Z;have G7:=yr (P:=l.prog) (w:=w) (base:=base) T D7 Z;have G8:=Dr (P:=l.prog) (w:=w) (base:=base) T D8 Z G5 G6 G7;have G9:=rF (P:=l.prog) (w:=w) (base:=base) T D9 Z;have G10:=yu (P:=l.prog) (w:=w) (base:=base) T D10 Z G4 G9;have G11:=yx (P:=l.prog) (w:=w) (base:=base) T D11 Z G0;have G12:=uT (P:=l.prog) (w:=w) (base:=base) T D12 Z G0;have MF_Shop___init__:=bN (st:=(inClass (top 29) 0)) mL_Shop___init__ mE_Shop___init__ mK_Shop___init__;have G13:Dc l.prog w K mg base x_Shop 1 ["self","bench","size","states"] (spW K dm):=⟨_,_,⟨mC_Shop___init__,mA_Shop___init__,mB_Shop___init__,mD_Shop___init__⟩,MF_Shop___init__.binds (ps:=["self","bench","size","states"]) (λ_ _ _ _ _ _ us hl=>by obtain⟨_,_,_,_,rfl⟩:=Uq hl;rfl),qw (P:=l.prog) (w:=w) (base:=base) T MF_Shop___init__ Z⟩
 have MF_Shop_block:=bN (st:=(inClass (top 29) 1)) mL_Shop_block mE_Shop_block mK_Shop_block;have G14:MethAt l.prog w K mg base x_Shop "block" 4 ["self","name"] (spW K fD):=⟨_,_,⟨mA_Shop_block,mB_Shop_block,mK_Shop_block⟩,MF_Shop_block.binds (ps:=["self","name"]) (λ_ _ _ _ _ _ us hl=>by obtain⟨_,_,rfl⟩:=lK hl;rfl),vy (P:=l.prog) (w:=w) (base:=base) T MF_Shop_block Z G11 G3⟩
 have MF_Shop_cut:=bN (st:=(inClass (top 29) 4)) mL_Shop_cut mE_Shop_cut mK_Shop_cut;have G15:MethAt l.prog w K mg base x_Shop "cut" 4 ["self","name","stroke"] (spW K cD):=⟨_,_,⟨mA_Shop_cut,mB_Shop_cut,mK_Shop_cut⟩,MF_Shop_cut.binds (ps:=["self","name","stroke"]) (λ_ _ _ _ _ _ us hl=>by obtain⟨_,_,_,rfl⟩:=Ru hl;rfl),Bc (P:=l.prog) (w:=w) (base:=base) T MF_Shop_cut Z G12 G8 G10⟩
 have MF_Shop_wood:=bN (st:=(inClass (top 29) 6)) mL_Shop_wood mE_Shop_wood mK_Shop_wood;have G16:MethAt l.prog w K mg base x_Shop "wood" 4 ["self","name"] (spM K (XRS K) gr):=⟨_,_,⟨mA_Shop_wood,mB_Shop_wood,mK_Shop_wood⟩,MF_Shop_wood.binds (ps:=["self","name"]) (λ_ _ _ _ _ _ us hl=>by obtain⟨_,_,rfl⟩:=lK hl;rfl),yC (P:=l.prog) (w:=w) (base:=base) T MF_Shop_wood Z G12⟩
 have G17:=Ig (P:=l.prog) (w:=w) (base:=base) T D13 Z;have G18:=Ii (P:=l.prog) (w:=w) (base:=base) T D14 Z;have G19:=Ik (P:=l.prog) (w:=w) (base:=base) T D15 Z;have G20:=Ds (P:=l.prog) (w:=w) (base:=base) T D16 Z G18 G19;have G21:=Il (P:=l.prog) (w:=w) (base:=base) T D17 Z G18;have G22:=Im (P:=l.prog) (w:=w) (base:=base) T D18 Z;have G23:=Io (P:=l.prog) (w:=w) (base:=base) T D19 Z;have G24:=Ip (P:=l.prog) (w:=w) (base:=base) T D20 Z;have G25:=Ld (P:=l.prog) (w:=w) (base:=base) T D21 Z;have G26:=Dt (P:=l.prog) (w:=w) (base:=base) T D22 Z G15;have G27:=Ir (P:=l.prog) (w:=w) (base:=base) T D23 Z;have G28:=Le (P:=l.prog) (w:=w) (base:=base) T D24 Z;exact RW (P:=l.prog) (w:=w) (base:=base) T F25 Z G20 G17 G21 G13 G14 G23 G27 G28 G24 G26 G25 G22 G16
theorem walk{l:PySem.W.OpenLaw}{q:Program}{loose:List Str}{XP:(Str->Option Value)->Heap->Prop}{YP:World->Heap->Prop}{d:DefRec}{K:Params->PySem.W.Frag}(hn:l.most=some 63)(hdf:d.params.defaults=[])
  (hY:∀ (w:World) (h:Heap),YP w h->(K w.params).In h)
  (F:∀ (w:World) (mg:Str->Option Value) (fa:Addr) (h:Heap),(K w.params).In h->h.Ns mainGlobals mg->mg d.name=some (.ref fa) ->
   ∃ fd:FuncData,(∀ (s:Shared) (u:Value),BindsTo s fd ⟨[u],[]⟩ [("_law_script",u)])/\∀ base:Heap,(K w.params).In base->base.Ns mainGlobals mg->jg l.prog w (K w.params) mg base CX0 6 fa fd ["_law_script"] (spM (K w.params) XR0 wg))
  (main:∀ ns:List Int,ns.length<=63->wg [.lst (ns.map PV.int)]=some (.ok (.bl true))) :
  PySem.W.WalkO q loose XP YP l.row.toRowW d [] (λf vs=>PySem.call f vs):=
 L2.Ml (n:=63) (k:=6) (x:="_law_script") (CX:=λ_=>CX0) (sp:=λw=>spM (K w.params) XR0 wg) hn (by decide) hdf ⟨rfl,by decide,by decide⟩ hY F (λw H a ns hl _ hS=>⟨[.lst (ns.map PV.int)],H,.ok (.bl true),aL.refl _,bz.nil.cons (.lst hS (bz.wW (K:=K w.params) (F:=H) ns).1 (bz.wW ns).2),main ns hl,λv F' H' _ rv=>Rep.cX rv⟩) λ_ _ _ _ _ z=>z
end MM
open PySem PySem.W PyProof.Rows
set_option maxRecDepth 100000 in
set_option maxHeartbeats 0 in
theorem PySem.Challenge.cw_lostblock_k54_cut_in_a_shop_holds : PySem.Challenge.rw_lostblock_k54_cut_in_a_shop.Holds := by
 w_on;o_law;k_head;(case hw=>w_witness2)
 k_fill
 refine MM.walk (l:=PySem.Challenge.rw_lostblock_k54_cut_in_a_shop) rfl rfl (λw h Y=>PySem.W.kIn_of Y) ?F MM.law_main
 case F=>
  intro w mg fa h KX G hmg;refine' MM.RX KX G hmg ?a0 ?l0 ?c0 ?k0 ?a1 ?l1 ?c1 ?k1 ?a2 ?l2 ?c2 ?k2 ?a3 ?l3 ?c3 ?k3 ?a4 ?l4 ?c4 ?k4 ?a5 ?l5 ?c5 ?k5 ?a6 ?l6 ?c6 ?k6 ?a7 ?l7 ?c7 ?k7 ?a8 ?l8 ?c8 ?k8 ?a9 ?l9 ?c9 ?k9 ?a10 ?l10 ?c10 ?k10 ?a11 ?l11 ?c11 ?k11 ?a12 ?l12 ?c12 ?k12 ?a13 ?l13 ?c13 ?k13 ?a14 ?l14 ?c14 ?k14 ?a15 ?l15 ?c15 ?k15 ?a16 ?l16 ?c16 ?k16 ?a17 ?l17 ?c17 ?k17 ?a18 ?l18 ?c18 ?k18 ?a19 ?l19 ?c19 ?k19 ?a20 ?l20 ?c20 ?k20 ?a21 ?l21 ?c21 ?k21 ?a22 ?l22 ?c22 ?k22 ?a23 ?l23 ?c23 ?k23 ?a24 ?l24 ?c24 ?k24 ?a25 ?l25 ?c25 ?k25 ?kj ?Li ?DK ?Lj ?km ?Lk ?DN ?yI ?Ln ?yJ ?uW ?qy ?il ?Lp ?nx_NoName ?nx_Twice ?nx_Shop ?nx_NoStroke ?nx_Wrong ?nx_Order ?nx_BlockError ?lx_NoName ?h1_NoName ?h2_NoName ?h3_NoName ?h4_NoName ?h5_NoName ?in_NoName ?kp_NoName ?xa_NoName ?xg_NoName ?xh_NoName ?sf_NoName ?xb_NoName ?xc_NoName ?xd_NoName ?xe_NoName ?xf_NoName ?lx_Twice ?h1_Twice ?h2_Twice ?h3_Twice ?h4_Twice ?h5_Twice ?in_Twice ?kp_Twice ?xa_Twice ?xg_Twice ?xh_Twice ?sf_Twice ?xb_Twice ?xc_Twice ?xd_Twice ?xe_Twice ?xf_Twice ?lx_NoStroke ?h1_NoStroke ?h2_NoStroke ?h3_NoStroke ?h4_NoStroke ?h5_NoStroke ?in_NoStroke ?kp_NoStroke ?xa_NoStroke ?xg_NoStroke ?xh_NoStroke ?sf_NoStroke ?xb_NoStroke ?xc_NoStroke ?xd_NoStroke ?xe_NoStroke ?xf_NoStroke ?tl_BlockError ?tn_BlockError ?tb_BlockError ?s_NoName_BlockError ?s_Twice_BlockError ?s_NoStroke_BlockError ?ql_BlockError ?qt_BlockError ?qn_BlockError ?qs_NoName_BlockError ?qs_Twice_BlockError ?qs_NoStroke_BlockError ?ql_NoName ?qt_NoName ?qn_NoName ?qs_NoName_NoName ?qs_Twice_NoName ?qs_NoStroke_NoName ?ql_NoStroke ?qt_NoStroke ?qn_NoStroke ?qs_NoName_NoStroke ?qs_Twice_NoStroke ?qs_NoStroke_NoStroke ?ql_Order ?qt_Order ?qn_Order ?qs_NoName_Order ?qs_Twice_Order ?qs_NoStroke_Order ?ql_Twice ?qt_Twice ?qn_Twice ?qs_NoName_Twice ?qs_Twice_Twice ?qs_NoStroke_Twice ?ql_Wrong ?qt_Wrong ?qn_Wrong ?qs_NoName_Wrong ?qs_Twice_Wrong ?qs_NoStroke_Wrong ?ol_Shop ?on_Shop ?op_Shop ?oh_Shop ?ov_Shop ?os_Shop ?oa_Shop_bench ?oa_Shop_size ?oa_Shop_states ?oa_Shop_woods ?oa_Shop_prints ?mA_Shop___init__ ?mB_Shop___init__ ?mC_Shop___init__ ?mD_Shop___init__ ?mL_Shop___init__ ?mE_Shop___init__ ?mK_Shop___init__ ?mA_Shop_block ?mB_Shop_block ?mL_Shop_block ?mE_Shop_block ?mK_Shop_block ?mA_Shop_cut ?mB_Shop_cut ?mL_Shop_cut ?mE_Shop_cut ?mK_Shop_cut ?mA_Shop_wood ?mB_Shop_wood ?mL_Shop_wood ?mE_Shop_wood ?mK_Shop_wood ?qb_NoName_ValueError ?qb_Twice_ValueError ?qb_NoStroke_ValueError
  (case a0=>k_is)
  (case l0=>k_is)
  (case c0=>k_is)
  (case k0=>k_is)
  (case a1=>k_is)
  (case l1=>k_is)
  (case c1=>k_is)
  (case k1=>k_is)
  (case a2=>k_is)
  (case l2=>k_is)
  (case c2=>k_is)
  (case k2=>k_is)
  (case a3=>k_is)
  (case l3=>k_is)
  (case c3=>k_is)
  (case k3=>k_is)
  (case a4=>k_is)
  (case l4=>k_is)
  (case c4=>k_is)
  (case k4=>k_is)
  (case a5=>k_is)
  (case l5=>k_is)
  (case c5=>k_is)
  (case k5=>k_is)
  (case a6=>k_is)
  (case l6=>k_is)
  (case c6=>k_is)
  (case k6=>k_is)
  (case a7=>k_is)
  (case l7=>k_is)
  (case c7=>k_is)
  (case k7=>k_is)
  (case a8=>k_is)
  (case l8=>k_is)
  (case c8=>k_is)
  (case k8=>k_is)
  (case a9=>k_is)
  (case l9=>k_is)
  (case c9=>k_is)
  (case k9=>k_is)
  (case a10=>k_is)
  (case l10=>k_is)
  (case c10=>k_is)
  (case k10=>k_is)
  (case a11=>k_is)
  (case l11=>k_is)
  (case c11=>k_is)
  (case k11=>k_is)
  (case a12=>k_is)
  (case l12=>k_is)
  (case c12=>k_is)
  (case k12=>k_is)
  (case a13=>k_is)
  (case l13=>k_is)
  (case c13=>k_is)
  (case k13=>k_is)
  (case a14=>k_is)
  (case l14=>k_is)
  (case c14=>k_is)
  (case k14=>k_is)
  (case a15=>k_is)
  (case l15=>k_is)
  (case c15=>k_is)
  (case k15=>k_is)
  (case a16=>k_is)
  (case l16=>k_is)
  (case c16=>k_is)
  (case k16=>k_is)
  (case a17=>k_is)
  (case l17=>k_is)
  (case c17=>k_is)
  (case k17=>k_is)
  (case a18=>k_is)
  (case l18=>k_is)
  (case c18=>k_is)
  (case k18=>k_is)
  (case a19=>k_is)
  (case l19=>k_is)
  (case c19=>k_is)
  (case k19=>k_is)
  (case a20=>k_is)
  (case l20=>k_is)
  (case c20=>k_is)
  (case k20=>k_is)
  (case a21=>k_is)
  (case l21=>k_is)
  (case c21=>k_is)
  (case k21=>k_is)
  (case a22=>k_is)
  (case l22=>k_is)
  (case c22=>k_is)
  (case k22=>k_is)
  (case a23=>k_is)
  (case l23=>k_is)
  (case c23=>k_is)
  (case k23=>k_is)
  (case a24=>k_is)
  (case l24=>k_is)
  (case c24=>k_is)
  (case k24=>k_is)
  (case a25=>k_is)
  (case l25=>k_is)
  (case c25=>k_is)
  (case k25=>k_is)
  (case kj=>k_is)
  (case Li=>k_is)
  (case DK=>k_is)
  (case Lj=>k_is)
  (case km=>k_is)
  (case Lk=>k_is)
  (case DN=>k_is)
  (case yI=>k_is)
  (case Ln=>k_is)
  (case yJ=>k_is)
  (case uW=>k_is)
  (case qy=>k_is)
  (case il=>k_is)
  (case Lp=>k_is)
  (case nx_NoName=>k_is)
  (case nx_Twice=>k_is)
  (case nx_Shop=>k_is)
  (case nx_NoStroke=>k_is)
  (case nx_Wrong=>k_is)
  (case nx_Order=>k_is)
  (case nx_BlockError=>k_is)
  (case lx_NoName=>k_is)
  (case h1_NoName=>first|rfl|decide +kernel|k_is)
  (case h2_NoName=>first|rfl|decide +kernel|k_is)
  (case h3_NoName=>first|rfl|decide +kernel|k_is)
  (case h4_NoName=>first|rfl|decide +kernel|k_is)
  (case h5_NoName=>first|rfl|decide +kernel|k_is)
  (case in_NoName=>k_is)
  (case kp_NoName=>k_is)
  (case xa_NoName=>k_is)
  (case xg_NoName=>k_is)
  (case xh_NoName=>k_is)
  (case sf_NoName=>k_is)
  (case xb_NoName=>k_is)
  (case xc_NoName=>k_is)
  (case xd_NoName=>k_is)
  (case xe_NoName=>k_is)
  (case xf_NoName=>k_is)
  (case lx_Twice=>k_is)
  (case h1_Twice=>first|rfl|decide +kernel|k_is)
  (case h2_Twice=>first|rfl|decide +kernel|k_is)
  (case h3_Twice=>first|rfl|decide +kernel|k_is)
  (case h4_Twice=>first|rfl|decide +kernel|k_is)
  (case h5_Twice=>first|rfl|decide +kernel|k_is)
  (case in_Twice=>k_is)
  (case kp_Twice=>k_is)
  (case xa_Twice=>k_is)
  (case xg_Twice=>k_is)
  (case xh_Twice=>k_is)
  (case sf_Twice=>k_is)
  (case xb_Twice=>k_is)
  (case xc_Twice=>k_is)
  (case xd_Twice=>k_is)
  (case xe_Twice=>k_is)
  (case xf_Twice=>k_is)
  (case lx_NoStroke=>k_is)
  (case h1_NoStroke=>first|rfl|decide +kernel|k_is)
  (case h2_NoStroke=>first|rfl|decide +kernel|k_is)
  (case h3_NoStroke=>first|rfl|decide +kernel|k_is)
  (case h4_NoStroke=>first|rfl|decide +kernel|k_is)
  (case h5_NoStroke=>first|rfl|decide +kernel|k_is)
  (case in_NoStroke=>k_is)
  (case kp_NoStroke=>k_is)
  (case xa_NoStroke=>k_is)
  (case xg_NoStroke=>k_is)
  (case xh_NoStroke=>k_is)
  (case sf_NoStroke=>k_is)
  (case xb_NoStroke=>k_is)
  (case xc_NoStroke=>k_is)
  (case xd_NoStroke=>k_is)
  (case xe_NoStroke=>k_is)
  (case xf_NoStroke=>k_is)
  (case tl_BlockError=>k_is)
  (case tn_BlockError=>k_is)
  (case tb_BlockError=>k_is)
  (case s_NoName_BlockError=>k_is)
  (case s_Twice_BlockError=>k_is)
  (case s_NoStroke_BlockError=>k_is)
  (case ql_BlockError=>k_is)
  (case qt_BlockError=>k_is)
  (case qn_BlockError=>k_is)
  (case qs_NoName_BlockError=>k_is)
  (case qs_Twice_BlockError=>k_is)
  (case qs_NoStroke_BlockError=>k_is)
  (case ql_NoName=>k_is)
  (case qt_NoName=>k_is)
  (case qn_NoName=>k_is)
  (case qs_NoName_NoName=>k_is)
  (case qs_Twice_NoName=>k_is)
  (case qs_NoStroke_NoName=>k_is)
  (case ql_NoStroke=>k_is)
  (case qt_NoStroke=>k_is)
  (case qn_NoStroke=>k_is)
  (case qs_NoName_NoStroke=>k_is)
  (case qs_Twice_NoStroke=>k_is)
  (case qs_NoStroke_NoStroke=>k_is)
  (case ql_Order=>k_is)
  (case qt_Order=>k_is)
  (case qn_Order=>k_is)
  (case qs_NoName_Order=>k_is)
  (case qs_Twice_Order=>k_is)
  (case qs_NoStroke_Order=>k_is)
  (case ql_Twice=>k_is)
  (case qt_Twice=>k_is)
  (case qn_Twice=>k_is)
  (case qs_NoName_Twice=>k_is)
  (case qs_Twice_Twice=>k_is)
  (case qs_NoStroke_Twice=>k_is)
  (case ql_Wrong=>k_is)
  (case qt_Wrong=>k_is)
  (case qn_Wrong=>k_is)
  (case qs_NoName_Wrong=>k_is)
  (case qs_Twice_Wrong=>k_is)
  (case qs_NoStroke_Wrong=>k_is)
  (case ol_Shop=>k_is)
  (case on_Shop=>first|rfl|decide +kernel|k_is)
  (case op_Shop=>k_is)
  (case oh_Shop=>k_is)
  (case ov_Shop=>k_is)
  (case os_Shop=>k_is)
  (case oa_Shop_bench=>k_is)
  (case oa_Shop_size=>k_is)
  (case oa_Shop_states=>k_is)
  (case oa_Shop_woods=>k_is)
  (case oa_Shop_prints=>k_is)
  (case mA_Shop___init__=>k_is)
  (case mB_Shop___init__=>k_is)
  (case mC_Shop___init__=>k_is)
  (case mD_Shop___init__=>k_is)
  (case mL_Shop___init__=>k_is)
  (case mE_Shop___init__=>k_is)
  (case mK_Shop___init__=>k_is)
  (case mA_Shop_block=>k_is)
  (case mB_Shop_block=>k_is)
  (case mL_Shop_block=>k_is)
  (case mE_Shop_block=>k_is)
  (case mK_Shop_block=>k_is)
  (case mA_Shop_cut=>k_is)
  (case mB_Shop_cut=>k_is)
  (case mL_Shop_cut=>k_is)
  (case mE_Shop_cut=>k_is)
  (case mK_Shop_cut=>k_is)
  (case mA_Shop_wood=>k_is)
  (case mB_Shop_wood=>k_is)
  (case mL_Shop_wood=>k_is)
  (case mE_Shop_wood=>k_is)
  (case mK_Shop_wood=>k_is)
  (case qb_NoName_ValueError=>k_is)
  (case qb_Twice_ValueError=>k_is)
  (case qb_NoStroke_ValueError=>k_is)
#print axioms PySem.Challenge.cw_lostblock_k54_cut_in_a_shop_holds
