import PyProof.Rows.All
import Wide.All
import OpenK.AllK
import Wide.FinOn
import Lean
import PyProof.EqAt
import PyProof.EqKinds
import PyProof.TupleCall
import PySem.Challenge.RW_lostblock_k42_whole_plans_held
set_option Elab.async false
set_option linter.all false
set_option maxRecDepth 100000
def PySem.W.Fast.tw11157404945893575530:=()
def PySem.W.Fast.tw366388685695300226:=()
def PySem.W.Fast.tw10300848677367746289:=()
def PySem.W.Fast.tw15349945153940242956:=()
def PySem.W.Fast.tw10160468991798049737:=()
def PySem.W.Fast.tw5402492590351294183:=()
def PySem.W.Fast.tw1048098037245712576:=()
def PySem.W.Fast.tw12068795170044999240:=()
def PySem.W.Fast.tw16035528044000511853:=()
def PySem.W.Fast.tw16373674085069037885:=()
def PySem.W.Fast.tw8503417178764462673:=()
def PySem.W.Fast.tw2371642817545265824:=()
def PySem.W.Fast.tw5934533335961048139:=()
def PySem.W.Fast.tw10914746976659934409:=()
def PySem.W.Fast.tw17438749408798286178:=()
def PySem.W.Fast.tw13559643460549741985:=()
def PySem.W.Fast.tw17503458112371788141:=()
def PySem.W.Fast.tw10420894524787079702:=()
def PySem.W.Fast.tw5383853552945730536:=()
def PySem.W.Fast.tw3450573137082296881:=()
def PySem.W.Fast.tw14575699543884276616:=()
def PySem.W.Fast.tw14837743885466802514:=()
def PySem.W.Fast.tw3350733509433671432:=()
def PySem.W.Fast.tw18325785072923486947:=()
def PySem.W.Fast.tw16375493736750019147:=()
def PySem.W.Fast.tw14015157175261246892:=()
def PySem.W.Fast.tw1821840775879245844:=()
def PySem.W.Fast.tw13099381603357167003:=()
def PySem.W.Fast.tw6398385086010356234:=()
def PySem.W.Fast.tw15729641243664458524:=()
def PySem.W.Fast.tw13718823224105788685:=()
def PySem.W.Fast.tw3613182639849384937:=()
def PySem.W.Fast.tw7385564737433015798:=()
def PySem.W.Fast.tw17102913810755444083:=()
def PySem.W.Fast.tw8932534241889712647:=()
def PySem.W.Fast.tw1119592255279317372:=()
def PySem.W.Fast.tw5705717130576906185:=()
def PySem.W.Fast.tw10775054407422076557:=()
def PySem.W.Fast.tw10990731454495672612:=()
def PySem.W.Fast.tw12326408850217309112:=()
def PySem.W.Fast.tw5356884212863469442:=()
def PySem.W.Fast.tw11236976143727483465:=()
def PySem.W.Fast.tw11903271571230334717:=()
def PySem.W.Fast.tw6059727671346676381:=()
def PySem.W.Fast.tw1642290752679789254:=()
def PySem.W.Fast.tw10529315126821194523:=()
def PySem.W.Fast.tw10222881786307579833:=()
def PySem.W.Fast.tw5789051413352331308:=()
def PySem.W.Fast.tw1000243928311288894:=()
def PySem.W.Fast.tw10962681277742371158:=()
def PySem.W.Fast.tw14205408334711198543:=()
def PySem.W.Fast.tw11947268974946145921:=()
def PySem.W.Fast.tw15488437205525533344:=()
def PySem.W.Fast.tw1733951350463083077:=()
def PySem.W.Fast.tw16937513567475616486:=()
def PySem.W.Fast.tw12226239754185200645:=()
def PySem.W.Fast.tw5537623999928548525:=()
def PySem.W.Fast.tw9185447969809823202:=()
def PySem.W.Fast.tw260484009298089227:=()
def PySem.W.Fast.tw4503865450177772120:=()
def PySem.W.Fast.tw15601138157470454439:=()
def PySem.W.Fast.tw14400717351922776346:=()
def PySem.W.Fast.tw1072961564379755688:=()
def PySem.W.Fast.tw14677137454328726673:=()
def PySem.W.Fast.tw7124584313103187349:=()
def PySem.W.Fast.tw10528818010189870769:=()
def PySem.W.Fast.tw17424798283685649066:=()
def PySem.W.Fast.tw119611975903454486:=()
def PySem.W.Fast.tw10835563267398325498:=()
def PySem.W.Fast.tw17624560114231575309:=()
def PySem.W.Fast.tw12887247999270534646:=()
def PySem.W.Fast.tw7665212213590645570:=()
def PySem.W.Fast.tw13090476576426112007:=()
def PySem.W.Fast.tw80036598435489226:=()
def PySem.W.Fast.tw6680901086036831534:=()
def PySem.W.Fast.tw4673068572917335981:=()
local macro_rules|`(command| def $d:declId $s:optDeclSig $v:declVal)=>`(command| noncomputable def $d:declId $s:optDeclSig $v:declVal)
open PySem.W (Frag keepIn fnOf codeIn nsIn)
def Zaa:=@Option.some.inj
def Zab:=@List.getElem?_eq_getElem
def Zac:=@List.getElem?_map
def Zad:=@List.getElem?_set_ne
def Zae:=@PySem.W.mg_of
def Zaf:=@PySem.Heap.get?_push_of_some
def Zag:=@Nat.le_refl
def Zah:=@PySem.wpAny_bind
def Zai:=@List.map_cons
def Zaj:=@Int.emod_lt_of_pos
def Zak:=@Int.toNat_natCast
def Zal:=@Int.emod_nonneg
def Zam:=@PySem.Heap.lt_size
def Zan:=@if_pos
def Zao:=@List.mem_cons
def Zap:=@if_neg
def Zaq:=@PySem.PassesOwn.never
def Zar:=@List.getElem?_eq_some_iff
def Zas:=@Nat.lt_of_lt_of_le
def Zat:=@List.getElem?_append_left
def Zau:=@PySem.Heap.get?_push_size
def Zav:=@PySem.F.slot_list_append
def Zaw:=@PySem.wpAny_pure
def Zax:=@PySem.F.plainAttrs_list
def Zay:=@decide_eq_false
def Zaz:=@List.getElem?_append_right
def ZaA:=@Int.toNat_of_nonneg
def ZaB:=@List.length_range
def ZaC:=@Nat.le_trans
def ZaD:=@List.getElem?_eq_none
def ZaE:=@List.getElem?_set_self
def ZaF:=@Nat.ne_of_lt
def ZaG:=@List.getD_eq_getElem?_getD
def ZaH:=@List.mem_append_right
def ZaI:=@List.mem_of_getElem?
def ZaJ:=@List.getElem?_range
def ZaK:=@decide_eq_true
def ZaL:=@List.not_mem_nil
def ZaM:=@List.append_nil
def ZaN:=@List.map_append
def ZaO:=@PySem.W.mg_none_of
def ZaP:=@List.length_cons
def ZaQ:=@Nat.le_of_lt
def ZaR:=@List.mem_map
def ZaS:=@List.mem_range
def ZaT:=@if_false
def ZaU:=@List.mem_append
def ZaV:=@List.getElem?_replicate
def ZaW:=@List.mem_singleton
def ZaX:=@Int.eq_ofNat_of_zero_le
def ZaY:=@PySem.wpAny_mono
def ZaZ:=@List.all_eq_true
def Za0:=@Ne.symm
def Za1:=@List.drop_eq_getElem_cons
def Za2:=@List.mem_filter
def Za3:=@List.find?_cons
def Za4:=@List.filterMap_cons_none
def Za5:=@List.filterMap_cons_some
def Za6:=@List.length_take
def Za7:=@if_true
def Za8:=@List.drop_zero
def Za9:=@Array.length_toList
def Zba:=@PyProof.Rows.callWith_type1
def Zbb:=@Array.getD_eq_getD_getElem?
def Zbc:=@PySem.W.kia_one
def Zbd:=@List.mem_map_of_mem
def Zbe:=@Int.natCast_nonneg
def Zbf:=@Int.zero_add
def Zbg:=@Nat.zero_le
def Zbh:=@List.length_filterMap_le
def Zbi:=@Nat.lt_succ_iff_lt_or_eq
def Zbj:=@PySem.mem_of_lookup
def Zbk:=@List.take_of_length_le
def Zbl:=@Option.map_some
def Zbm:=@Nat.lt_irrefl
def Zbn:=@List.any_cons
def Zbo:=@or_false
set_option compiler.extract_closed false
set_option bootstrap.genMatcherCode false
set_option genSizeOf false
local macro_rules|`(tactic| omega)=>`(tactic| first|(grind only)|omega (config:={}))
local macro_rules|`(tactic| lia)=>`(tactic| first|lia -verbose|omega (config:={}))
namespace L2
open PySem PySem.Spec PyProof.Rows
noncomputable abbrev Key:=Sum Int Str
def yx:Key->Value->Bool
 |.inl k,v=>Value.isInt k v
 |.inr x,v=>Value.isStrOf x v
def Ur(w:World):Key->Int
 |.inl k=>hashInt k
 |.inr x=>hashStr w x
theorem dG:∀ {k:Key}{v:Value},yx k v=true->(∃ i t,k=Sum.inl i/\v=Value.int i t)\/(∃ x t,k=Sum.inr x/\v=Value.str x t)
 |.inl i,v,h=>by
  obtain⟨t,e⟩:=Value.isInt_shape (k:=i) (v:=v) h;exact .inl ⟨i,t,rfl,e⟩
 |.inr x,v,h=>by
  obtain⟨t,e⟩:=Value.isStrOf_shape (x:=x) (v:=v) h;exact .inr ⟨x,t,rfl,e⟩
theorem Iw(i:Int)(t:Tok):yx (.inl i) (.int i t)=true:=by simp[yx,Value.isInt]
theorem Iz(x:Str)(t:Tok):yx (.inr x) (.str x t)=true:=by simp[yx,Value.isStrOf]
theorem Q3(a b:Int):decide ((Sum.inl a:Key)=Sum.inl b)=(a==b):=by
 by_cases e:a=b
 ·subst e;simp
 ·have h:¬(Sum.inl a:Key)=Sum.inl b:=λq=>e (Sum.inl.inj q);rw[Zay h];exact(beq_eq_false_iff_ne.mpr e).symm
theorem Q4(a b:Str):decide ((Sum.inr a:Key)=Sum.inr b)=decide (a=b):=by
 by_cases e:a=b
 ·subst e;simp
 ·have h:¬(Sum.inr a:Key)=Sum.inr b:=λq=>e (Sum.inr.inj q);rw[Zay h,Zay e]
theorem Q5(a:Int)(b:Str):decide ((Sum.inl a:Key)=Sum.inr b)=false:=Zay (λq=>nomatch q)
theorem Q6(a:Str)(b:Int):decide ((Sum.inr a:Key)=Sum.inl b)=false:=Zay (λq=>nomatch q)
def di(prog:Program)(w:World):PySem.KeyKind prog w Key where
 is:=yx
 hash:=Ur w
 inj:=λv a b ha hb=>by
  rcases dG ha with⟨i,t,rfl,rfl⟩|⟨x,t,rfl,rfl⟩
  ·rcases dG hb with⟨j,u,rfl,e⟩|⟨y,u,rfl,e⟩
   ·injection e with e1 _;rw[e1]
   ·exact nomatch e
  ·rcases dG hb with⟨j,u,rfl,e⟩|⟨y,u,rfl,e⟩
   ·exact nomatch e
   ·injection e with e1 _;rw[e1]
 byValue:=λk v h=>by
  rcases dG h with⟨i,t,rfl,rfl⟩|⟨x,t,rfl,rfl⟩<;>rfl
 pyHash:=λhv h=>by
  rcases dG hv with⟨i,t,rfl,rfl⟩|⟨x,t,rfl,rfl⟩
  ·exact wpAny_pyHash_int h
  ·exact wpAny_pyHash_str h
 eqBool:=λhu hv h=>by
  rcases dG hu with⟨i,t,rfl,rfl⟩|⟨x,t,rfl,rfl⟩
  ·rcases dG hv with⟨j,u,rfl,rfl⟩|⟨y,u,rfl,rfl⟩
   ·rw[Q3] at h;exact wpAny_eqBool_int h
   ·rw[Q5] at h;exact SeqAt.EqAt.int_str i t y u _ _ _ _ h
  ·rcases dG hv with⟨j,u,rfl,rfl⟩|⟨y,u,rfl,rfl⟩
   ·rw[Q6] at h;exact SeqAt.EqAt.str_int x t j u _ _ _ _ h
   ·rw[Q4] at h;exact wpAny_eqBool_str h
 «strs»:=λk x t v h=>by
  rcases dG h with⟨i,u,rfl,e⟩|⟨y,u,rfl,e⟩
  ·exact nomatch e
  ·injection e with e1 _
   subst e1;cases v<;>rfl
theorem Bp(prog:Program)(w:World)(i:Int)(t:Tok):(di prog w).is (.inl i) (.int i t)=true:=Iw i t
theorem Bq(prog:Program)(w:World)(x:Str)(t:Tok):(di prog w).is (.inr x) (.str x t)=true:=Iz x t
inductive V where
 |non|bl (b:Bool)|int (i:Int)|str (x:Str)|byt (b:Array UInt8)|flt (b:UInt64)|ref (a:Addr)|ty (n:String)
 deriving DecidableEq
def RelV:V->Value->Prop
 |.non,u=>u=Value.none
 |.bl b,u=>u=Value.bool b
 |.int i,u=>∃ t,u=Value.int i t
 |.str x,u=>∃ t,u=Value.str x t
 |.byt b,u=>∃ t,u=Value.bytes b t
 |.flt b,u=>∃ t,u=Value.float b t
 |.ref a,u=>u=Value.ref a
 |.ty n,u=>u=Value.type n
noncomputable abbrev Vals:List V->List Value->Prop:=Paired RelV
theorem Vals.length{xs:List V}{us:List Value}(r:Vals xs us):xs.length=us.length:=Paired.length r
theorem Vals.get:∀ {xs:List V}{us:List Value}{i:Nat}{x:V},Vals xs us->xs[i]?=some x->∃ u,us[i]?=some u/\RelV x u
 |_,_,_,_,.nil,e=>by simp at e
 |_,_,0,_,.cons r _,e=>by simp at e;subst e;exact⟨_,rfl,r⟩
 |_,_,i+1,x,.cons _ t,e=>by
  obtain⟨u,h1,h2⟩:=Vals.get (i:=i) (x:=x) t (by simpa using e)
  exact⟨u,by simpa using h1,h2⟩
theorem Vals.set{x:V}{u:Value}(r:RelV x u):∀ {xs:List V}{us:List Value} (i:Nat),Vals xs us->Vals (xs.set i x) (us.set i u)
 |_,_,_,.nil=>.nil
 |_,_,0,.cons _ t=>.cons r t
 |_,_,i+1,.cons q t=>.cons q (Vals.set r i t)
theorem Vals.append:∀ {xs ys:List V}{us ws:List Value},Vals xs us->Vals ys ws->Vals (xs++ys) (us++ws)
 |_,_,_,_,.nil,s=>s
 |_,_,_,_,.cons r t,s=>.cons r (Vals.append t s)
theorem Vals.take:∀ {xs:List V}{us:List Value} (n:Nat),Vals xs us->Vals (xs.take n) (us.take n)
 |_,_,0,_=>.nil
 |_,_,_+1,.nil=>.nil
 |_,_,n+1,.cons r t=>.cons r (Vals.take n t)
theorem Vals.drop:∀ {xs:List V}{us:List Value} (n:Nat),Vals xs us->Vals (xs.drop n) (us.drop n)
 |_,_,0,r=>r
 |_,_,_+1,.nil=>.nil
 |_,_,n+1,.cons _ t=>Vals.drop n t
theorem Vals.none_of:∀ {xs:List V}{us:List Value}{i:Nat},Vals xs us->xs[i]?=none->us[i]?=none:=λ{xs us i} r e=>by
 have h1:=r.length;have h2:xs.length<=i:=List.getElem?_eq_none_iff.mp e;exact List.getElem?_eq_none_iff.mpr (by omega)
def vz:Option V->Option Value->Prop
 |some v,some u=>RelV v u
 |none,none=>True
 |_,_=>False
def KV{κ:Type}:List (κ×V)->List (κ×Value)->Prop:=Paired λ(p:κ×V) (q:κ×Value)=>p.1=q.1/\RelV p.2 q.2
def kV:Key->V
 |.inl i=>.int i
 |.inr x=>.str x
inductive HO where
 |lst (xs:List V)
 |tup (xs:List V)
 |dK (kvs:List (Key×V))|dT (kvs:List (List Key×V))
 |set (S:Int->Bool) (n:Nat)
 |ins (C dx:Addr) (fs:List (Str×V))
 |own (x:Addr)
 |xd (fs:List (Str×V))
 |met (f x:Addr)
 |rng (lo hi:Int)
 |frz (o:Obj) (u:HO)
 |tbl (ps:Array Value)
 |ext (φ:Heap->Prop)
noncomputable abbrev Hp:=Addr->Option HO
def upd(H:Hp)(a:Addr)(o:HO):Hp:=λb=>if b=a then some o else H b
theorem aX{H:Hp}{a:Addr}{o:HO}:upd H a o a=some o:=by unfold upd;rw[Zan rfl]
theorem aU{H:Hp}{a b:Addr}{o:HO}(h:b≠a):upd H a o b=H b:=by unfold upd;rw[Zap h]
theorem Qo{H:Hp}{a b:Addr}{o u:HO}(h:H a=some o)(h':H b=some u)(d:o≠u):a≠b:=by
 intro e;subst e;rw[h] at h';exact d (Zaa h')
theorem bY{H:Hp}{a b:Addr}{o:HO}(h:H a=some o)(h':H b=none):a≠b:=by
 intro e;subst e;rw[h] at h';cases h'
def gC(h:Heap)(a:Addr)(items:Array Value):Prop:=IsTup h a items/\∀ o,h.get? a=some o->o.dict=none
theorem gC.new(h:Heap)(items:Array Value):gC (h.push { cls:=.type "tuple",data:=.seq items }) h.objs.size items:=⟨IsTup.new h items,λo e=>by rw[Zau _ rfl] at e;cases e;rfl⟩
theorem gC.mk{h:Heap}{a:Addr}{items:Array Value}{n:Nat}(e:h.get? a=some { cls:=.type "tuple",data:=.seq items n }):gC h a items:=⟨⟨_,e,rfl,_,rfl⟩,λo q=>by rw[e] at q;cases q;rfl⟩
theorem gC.lt{h:Heap}{a:Addr}{items:Array Value}(x:gC h a items):a<h.objs.size:=x.1.lt
theorem gC.at'{h h':Heap}{a:Addr}{items:Array Value}(x:gC h a items)(e:∀ o,h.get? a=some o->h'.get? a=some o):gC h' a items:=by
 obtain⟨⟨o,h1,r⟩,d⟩:=x;exact⟨⟨o,e o h1,r⟩,λu q=>by rw[e o h1] at q;cases q;exact d o h1⟩
section
variable(P:Program)(w:World)
def d8(H:Hp)(h:Heap)(a:Addr):HO->Prop
 |.lst xs=>xs.length<=sizeLine/\∃ (its:List Value) (n:Nat),Vals xs its/\h.get? a=some { cls:=.type "list",data:=.seq its.toArray n }
 |.tup xs=>xs.length<=sizeLine/\∃ its:List Value,Vals xs its/\gC h a its.toArray
 |.dK kvs=>kvs.length<=sizeLine/\(a==sysModules)=false/\∃ vs,KV kvs vs/\h.DictOf (di P w) a vs
 |.dT kvs=>kvs.length<=sizeLine/\(a==sysModules)=false/\∃ xs:List (List Key×Addr×Value),
   Paired (λ(p:List Key×V) (q:List Key×Addr×Value)=>p.1=q.1/\H q.2.1=some (.tup (p.1.map kV))/\RelV p.2 q.2.2) kvs xs /\
   ∃ o es ep,h.get? a=some o/\o.ExactDict/\o.data=.dict es ep/\es.toList=xs.map (entryOfKey (tupleKind (di P w)))/\(xs.map (·.1)).Nodup
 |.set S n=>h.SetOf (intKind P w) a S n
 |.ins C dx fs=>H dx=some (.own a)/\fs.length<=1000/\dx≠a/\h.get? a=some (PySem.W.instObj C dx) /\
   ∃ mA,h.Ns1 dx mA/\(∀ f,vz (fs.lookup f) (mA f))/\PySem.Within mA (fs.map (·.1))
 |.own _=>∃ o,h.get? a=some o
 |.xd fs=>∃ mA,h.Ns1 a mA/\∀ f,vz (fs.lookup f) (mA f)
 |.rng lo hi=>∃ t u v,h.get? a=some { cls:=.type "range",data:=.fields #[.int lo t,.int hi u,.int 1 v] }
 |.frz o u=>h.get? a=some o/\d8 H h a u
 |.tbl ps=>h.get? a=some { cls:=.none,data:=.fields ps }
 |.met f x=>h.get? a=some (PySem.W.methodObj (.ref f) (.ref x))
 |.ext φ=>φ h/\(∃ o,h.get? a=some o)/\∀ h1 h2:Heap,φ h1->(∀ o,h1.get? a=some o->h2.get? a=some o)->φ h2
def HOk(H:Hp)(h:Heap):Prop:=∀ a o,H a=some o->d8 P w H h a o
end
section
variable{P:Program}{w:World}{H H':Hp}{h h':Heap}{a:Addr}{o:HO}
theorem d8.lt(x:d8 P w H h a o):a<h.objs.size:=by
 cases o with
 |lst xs=>obtain⟨_,_,_,_,e⟩:=x;exact Zam e
 |tup xs=>obtain⟨_,_,_,p⟩:=x;exact p.lt
 |dK kvs=>obtain⟨_,_,_,_,o,_,_,e,_⟩:=x;exact Zam e
 |dT kvs=>obtain⟨_,_,_,_,o,_,_,e,_⟩:=x;exact Zam e
 |set S n=>obtain⟨o,_,_,_,e,_⟩:=x;exact Zam e
 |ins C dx fs=>obtain⟨_,_,_,e,_⟩:=x;exact Zam e
 |own y=>obtain⟨_,e⟩:=x;exact Zam e
 |xd fs=>obtain⟨_,⟨_,_,_,e,_⟩,_⟩:=x;exact Zam e
 |rng lo hi=>obtain⟨_,_,_,e⟩:=x;exact Zam e
 |frz ob u=>obtain⟨e,_⟩:=x;exact Zam e
 |tbl ps=>exact Zam (show h.get? a=some _ from x)
 |met f y=>exact Zam (show h.get? a=some _ from x)
 |ext φ=>obtain⟨_,⟨_,e⟩,_⟩:=x;exact Zam e
theorem Paired.Q7{α β:Type}{F G:α->β->Prop}:∀ {l₁:List α}{l₂:List β},Paired F l₁ l₂->(∀ a b,F a b->G a b)->Paired G l₁ l₂
 |_,_,.nil,_=>.nil
 |_,_,.cons r t,f=>.cons (f _ _ r) (Paired.Q7 t f)
theorem d8.stay(x:d8 P w H h a o)(k:∀ b u,(b=a\/H b=some (.own a))->h.get? b=some u->h'.get? b=some u)
  (ho:∀ b,H b=some (.own a)->H' b=some (.own a))(ht:∀ b xs,H b=some (.tup xs)->H' b=some (.tup xs)):d8 P w H' h' a o:=by
 induction o with
 |lst xs=>obtain⟨z,its,n,r,e⟩:=x;exact⟨z,its,n,r,k _ _ (.inl rfl) e⟩
 |tup xs=>obtain⟨z,its,r,c⟩:=x;exact⟨z,its,r,c.at' λo e=>k _ _ (.inl rfl) e⟩
 |dK kvs=>obtain⟨z,y,vs,r,ob,es,ep,e,c⟩:=x;exact⟨z,y,vs,r,ob,es,ep,k _ _ (.inl rfl) e,c⟩
 |dT kvs=>
  obtain⟨z,y,xs,r,ob,es,ep,e,c⟩:=x;exact⟨z,y,xs,Paired.Q7 r λp q z=>⟨z.1,ht _ _ z.2.1,z.2.2⟩,ob,es,ep,k _ _ (.inl rfl) e,c⟩
 |set S n=>obtain⟨ob,es,ep,t,e,c⟩:=x;exact⟨ob,es,ep,t,k _ _ (.inl rfl) e,c⟩
 |ins C dx fs=>
  obtain⟨d,z,ne,e,mA,⟨od,es,ep,e2,c⟩,r⟩:=x;exact⟨ho _ d,z,ne,k _ _ (.inl rfl) e,mA,⟨od,es,ep,k _ _ (.inr d) e2,c⟩,r⟩
 |own y=>obtain⟨ob,e⟩:=x;exact⟨ob,k _ _ (.inl rfl) e⟩
 |xd fs=>obtain⟨mA,⟨od,es,ep,e,c⟩,r⟩:=x;exact⟨mA,⟨od,es,ep,k _ _ (.inl rfl) e,c⟩,r⟩
 |rng lo hi=>obtain⟨t,u,v,e⟩:=x;exact⟨t,u,v,k _ _ (.inl rfl) e⟩
 |frz ob u ih=>obtain⟨e,q⟩:=x;exact⟨k _ _ (.inl rfl) e,ih q⟩
 |tbl ps=>
  have e:h.get? a=some { cls:=.none,data:=.fields ps }:=x;show h'.get? a=some { cls:=.none,data:=.fields ps }
  exact k a _ (.inl rfl) e
 |met f y=>
  have e:h.get? a=some (PySem.W.methodObj (.ref f) (.ref y)):=x;show h'.get? a=some (PySem.W.methodObj (.ref f) (.ref y))
  exact k a _ (.inl rfl) e
 |ext φ=>obtain⟨p,⟨o,e⟩,st⟩:=x;exact⟨st _ _ p λo q=>k _ _ (.inl rfl) q,⟨o,k _ _ (.inl rfl) e⟩,st⟩
theorem HOk.lt(x:HOk P w H h)(e:H a=some o):a<h.objs.size:=(x a o e).lt
theorem HOk.fresh(x:HOk P w H h)(e:h.objs.size<=a):H a=none:=by
 cases q:H a with
 |none=>rfl
 |some u=>exact absurd (Zas (x.lt q) e) (Zbm _)
theorem HOk.kept(x:HOk P w H h)(k:∀ b u,h.get? b=some u->h'.get? b=some u):HOk P w H h':=λa o e=>
 (x a o e).stay (λb u _ q=>k b u q) (λ_ q=>q) λ_ _ q=>q
theorem HOk.laid(x:HOk P w H h)(k:∀ b u,h.get? b=some u->h'.get? b=some u)(hp:h.objs.size<=a)(new:d8 P w (upd H a o) h' a o):HOk P w (upd H a o) h':=λb u e=>by
 have hn:=x.fresh hp;by_cases hb:b=a
 ·subst hb;rw[aX] at e;cases e;exact new
 ·rw[aU hb] at e;exact(x b u e).stay (λc v _ q=>k c v q) (λc q=>by rw[aU (bY q hn)];exact q) λc xs q=>by rw[aU (bY q hn)];exact q
end
def Rd(H:Hp)(a:Addr)(u:HO):Prop:=H a=some u\/∃ o,H a=some (.frz o u)
theorem Rd.ok{P:Program}{w:World}{H:Hp}{h:Heap}{a:Addr}{u:HO}(r:Rd H a u)(x:HOk P w H h):d8 P w H h a u:=by
 rcases r with r|⟨o,r⟩
 ·exact x a u r
 ·obtain⟨_,q⟩:=x a _ r;exact q
def Mut:Option HO->Prop
 |some (.lst _)=>True
 |some (.dK _)=>True
 |some (.dT _)=>True
 |some (.set _ _)=>True
 |some (.ins _ _ _)=>True
 |some (.ext _)=>True
 |_=>False
section
variable{P:Program}{w:World}{H:Hp}{h h':Heap}{x e:Addr}{o':HO}
theorem HOk.write(ok:HOk P w H h)(mu:Mut (H x))(he:e=x\/H e=some (.own x))(k:∀ b u,b≠e->h.get? b=some u->h'.get? b=some u)(heo:∃ u,h'.get? e=some u)
  (new:d8 P w (upd H x o') h' x o'):HOk P w (upd H x o') h':=λb u q=>by
 have nown:∀ c y,H c=some (.own y)->c≠x:=λc y r z=>by subst z;rw[r] at mu;exact mu
 have ntup:∀ c xs,H c=some (.tup xs)->c≠x:=λc xs r z=>by subst z;rw[r] at mu;exact mu
 by_cases hb:b=x
 ·subst hb;rw[aX] at q;cases q;exact new
 ·rw[aU hb] at q;by_cases hbe:b=e
  ·have q':H b=some (.own x):=by
    rcases he with z|z
    ·exact absurd (hbe.trans z) hb
    ·rw[hbe];exact z
   rw[q] at q';cases q';obtain⟨v,hv⟩:=heo;exact⟨v,by rw[hbe];exact hv⟩
  ·refine(ok b u q).stay (λc v hc r=>k c v ?_ r) (λc r=>by rw[aU (nown c b r)];exact r) λc xs r=>by rw[aU (ntup c xs r)];exact r
   rcases hc with rfl|hc
   ·exact hbe
   ·rintro rfl;rcases he with z|z
    ·exact nown c b hc z
    ·rw[hc] at z;cases z;exact hb rfl
end
structure Un(fs ex:List Addr)(H H':Hp)(h h':Heap):Prop where
 keep:∀ b o,h.get? b=some o->H b=none->b ∉ fs->b ∉ ex->h'.get? b=some o
 slot:∀ b o,h.get? b=some o->H b=none->b∈fs->b ∉ ex->∃ sl,h'.get? b=some { o with slots:=sl }
 free:∀ b o,h.get? b=some o->H b=none->b ∉ ex->H' b=none
 there:∀ b o,h.get? b=some o->b ∉ ex->∃ o',h'.get? b=some o'
 tups:∀ b xs,H b=some (.tup xs)->H' b=some (.tup xs)
 frzs:∀ b o u,H b=some (.frz o u)->H' b=some (.frz o u)
 tbls:∀ b ps,H b=some (.tbl ps)->∃ more,H' b=some (.tbl (ps++more))
section
variable{fs ex:List Addr}{H H1:Hp}{h h1 h':Heap}{a x e:Addr}{o:HO}
theorem Un.any(u:Un fs ex H H1 h h1){b:Addr}{ob:Obj}(q:h.get? b=some ob)(n:H b=none)(hx:b ∉ ex):∃ sl,h1.get? b=some { ob with slots:=sl }:=by
 by_cases hb:b∈fs
 ·exact u.slot b ob q n hb hx
 ·exact⟨ob.slots,u.keep b ob q n hb hx⟩
theorem Un.kept(k:∀ b u,h.get? b=some u->h'.get? b=some u):Un fs ex H H h h':=
 ⟨λb ob q _ _ _=>k b ob q,λb ob q _ _ _=>⟨ob.slots,k b ob q⟩,λ_ _ _ n _=>n,λb ob q _=>⟨ob,k b ob q⟩,λ_ _ q=>q,λ_ _ _ q=>q,λ_ ps q=>⟨#[],by rw[q];simp⟩⟩
theorem Un.refl:Un fs ex H H h h:=Un.kept λ_ _ q=>q
theorem Un.laid(k:∀ b u,h.get? b=some u->h'.get? b=some u)(hp:h.objs.size<=a)(hn:H a=none):Un fs ex H (upd H a o) h h' where
 keep:=λb u q _ _ _=>k b u q
 slot:=λb u q _ _ _=>⟨u.slots,k b u q⟩
 free:=λb u q n _=>by rw[aU (ZaF (Zas (Zam q) hp))];exact n
 there:=λb u q _=>⟨u,k b u q⟩
 tups:=λb xs q=>by rw[aU (bY q hn)];exact q
 frzs:=λb u xs q=>by rw[aU (bY q hn)];exact q
 tbls:=λb ps q=>⟨#[],by rw[aU (bY q hn),q];simp⟩
theorem Un.write(mu:Mut (H x))(he:e=x\/H e=some (.own x))(k:∀ b u,b≠e->h.get? b=some u->h'.get? b=some u)(heo:∃ u,h'.get? e=some u):Un fs ex H (upd H x o) h h':=by
 have hx:∀ b,H b=none->b≠x:=λb n z=>by subst z;rw[n] at mu;exact mu
 have hb:∀ b,H b=none->b≠e:=λb n z=>by
  subst z;rcases he with r|r
  ·exact hx b n r
  ·rw[n] at r;cases r
 have hm:∀ b u,H b=some u->¬Mut (some u)->b≠x:=λb u q nm z=>by subst z;rw[q] at mu;exact nm mu
 refine⟨λb u q n _ _=>k b u (hb b n) q,λb u q n _ _=>⟨u.slots,k b u (hb b n) q⟩,λb u q n _=>by rw[aU (hx b n)];exact n,λb u q _=>?_,
  λb xs q=>by rw[aU (hm b _ q λz=>z)];exact q,λb u xs q=>by rw[aU (hm b _ q λz=>z)];exact q,λb ps q=>⟨#[],by rw[aU (hm b _ q λz=>z),q];simp⟩⟩
 by_cases hbe:b=e
 ·subst hbe;exact heo
 ·exact⟨u,k b u hbe q⟩
end
def trk(h:Heap)(H:Hp):List Addr:=(List.range h.objs.size).filter λa=>(H a).isSome
def zp(h:Heap)(H:Hp):Heap:=PySem.W.hideAll h (trk h H)
theorem IK(h:Heap)(H:Hp):(zp h H).objs.size=h.objs.size:=PySem.W.hideAll_size _ _
theorem Kf{h:Heap}{H:Hp}{b:Addr}{o:Obj}(e:h.get? b=some o)(n:H b=none):(zp h H).get? b=some o:=
 PySem.W.hideAll_get _ e λhm=>by
  have q:(H b).isSome=true:=(Za2.mp hm).2;rw[n] at q;simp at q
theorem Nr{h:Heap}{H:Hp}{b:Addr}{o:Obj}(e:(zp h H).get? b=some o):h.get? b=some o/\H b=none:=by
 have e':h.get? b=some o:=PySem.W.of_hideAll (trk h H) e;refine⟨e',?_⟩;cases q:H b with
 |none=>rfl
 |some x=>
  have hm:b∈trk h H:=Za2.mpr ⟨ZaS.mpr (Zam e'),by simp[q]⟩
  have z:(zp h H).get? b=none:=PySem.W.hideAll_none (trk h H) hm;rw[z] at e;cases e
def Nt(g h:Heap)(L:Addr):List (Addr×Obj):=(List.range h.objs.size).filterMap λa=>if a=L\/(g.get? a).isSome=true then none else(h.get? a).map λo=>(a,o)
def rest(g h:Heap)(L d:Addr):List (Addr×Obj):=(Nt g h L).filter λp=>decide (p.1≠d)
structure Mod(K:Frag)(mg:Str->Option Value)(base:Heap):Prop where
 kin:K.In base
 glob:base.Ns mainGlobals mg
 blt:∃ mb,base.Ns builtinsNs mb/\∀ x:Str,x≠"__name__"->mb x=bootBuiltins x
 nolimit:base.NoLimit
structure Cx where
 prog:Program
 w:World
 K:Frag
 mg:Str->Option Value
 base:Heap
 A:Around
 N:List Str
 s₀:Shared
 H₀:Hp
 env:Env
 outer:List Env
 stack:List Env
 ex:List Addr
 fn:Str->Bool
 calm:Bool
 pn:List (Addr×Obj)
 xe:Value->Shared->Prop
def frs(l:List Env):List Addr:=l.filterMap (·.frame)
noncomputable abbrev Cx.fs(X:Cx):List Addr:=frs X.outer
def Vis(sc:Scope)(x:Str):Prop:=sc.names.lookup x=some .local\/sc.names.lookup x=some .cell\/sc.names.lookup x=some .free
def Loc(sc:Scope)(x:Str):Prop:=sc.names.lookup x=some .local\/sc.names.lookup x=some .cell
def Look(env:Env)(h:Heap)(m:Str->Option Value)(x:Str)(u:Value):Prop:=
 (env.kindOf x=some .local/\m x=some u)\/((env.kindOf x=some .cell\/env.kindOf x=some .free)/\∃ c,env.cells.lookup x=some c/\h.IsCell c (some u))
structure Cx.Ok(X:Cx):Prop where
 mod:Mod X.K X.mg X.base
 kind:X.env.scope.kind=.function
 glob:X.env.globals=mainGlobals
 blt:X.env.builtins=builtinsNs
 above:X.s₀.heap.objs.size<=X.env.locals
 inj:∀ x y c,X.env.cells.lookup x=some c->X.env.cells.lookup y=some c->x=y
 has:∀ x,(X.env.kindOf x=some .cell\/X.env.kindOf x=some .free)->∃ c,X.env.cells.lookup x=some c
 cab:∀ x c,X.fn x=true->X.env.cells.lookup x=some c->X.s₀.heap.objs.size<=c
 hd:X.calm=true->X.A.handled=none
 frames:X.A.frames=some X.stack
 stk:X.stack=X.outer\/(X.stack=X.env::X.outer/\X.env.frame=some X.env.locals)
 exf:∀ b∈X.ex,b≠X.env.locals/\∀ x c,X.env.cells.lookup x=some c->c≠b
 bs:∀ b o,X.base.get? b=some o->X.s₀.heap.get? b=some o/\X.H₀ b=none
 bsz:X.base.objs.size<=X.s₀.heap.objs.size
 noex:∀ b o,X.base.get? b=some o->b ∉ X.ex
 exfs:∀ b∈X.ex,b ∉ X.fs
 vA:X.s₀.heap.FunFrames X.base X.outer
 frf:∀ b∈X.fs,X.H₀ b=none
structure Inv(X:Cx)(pins:List (Addr×Obj))(σ:List (Option V))(H:Hp)(s:Shared):Prop where
 ok:X.Ok
 os:s.os=X.s₀.os
 bare:AllBare s.gens
 base:Un X.fs X.ex X.H₀ H X.s₀.heap s.heap
 loc:∃ m,s.heap.Ns X.env.locals m/\∀ (i:Nat) (x:Str) (v:V),X.N[i]?=some x->σ[i]?=some (some v)->Vis X.env.scope x->∃ u,RelV v u/\Look X.env s.heap m x u
 cell:∀ x c,X.env.cells.lookup x=some c->∃ v,s.heap.IsCell c v
 free:H X.env.locals=none
 freeC:∀ x c,X.env.cells.lookup x=some c->H c=none
 pin:∀ p∈X.pn++pins,s.heap.get? p.1=some p.2/\H p.1=none/\p.1≠X.env.locals/\p.1 ∉ X.fs/\∀ v,p.2.data≠.cell v
 hok:HOk X.prog X.w H s.heap
 len:σ.length=X.N.length
section
variable{X:Cx}{pins:List (Addr×Obj)}{σ:List (Option V)}{H H':Hp}{s:Shared}{h':Heap}
theorem Cx.Ok.Us(ok:X.Ok){b:Addr}{o:Obj}(e:X.base.get? b=some o):b ∉ X.fs:=λhb=>by
 have:=(ok.vA.mem hb).1;rw[e] at this;cases this
theorem Inv.bs(I:Inv X pins σ H s):∀ b o,X.base.get? b=some o->s.heap.get? b=some o/\H b=none:=λb o e=>
 ⟨I.base.keep b o (I.ok.bs b o e).1 (I.ok.bs b o e).2 (I.ok.Us e) (I.ok.noex b o e),I.base.free b o (I.ok.bs b o e).1 (I.ok.bs b o e).2 (I.ok.noex b o e)⟩
theorem Inv.bk(I:Inv X pins σ H s):∀ b o,X.base.get? b=some o->s.heap.get? b=some o:=λb o e=>(I.bs b o e).1
theorem Inv.mod(I:Inv X pins σ H s):Mod X.K X.mg X.base:=I.ok.mod
theorem Inv.kIn(I:Inv X pins σ H s):X.K.In s.heap:=I.ok.mod.kin.keeps I.bk
theorem Inv.lt(I:Inv X pins σ H s):X.env.locals<s.heap.objs.size:=let⟨_,hn,_⟩:=I.loc;hn.lt
theorem Inv.sz(I:Inv X pins σ H s):X.s₀.heap.objs.size<=s.heap.objs.size:=ZaC I.ok.above (ZaQ I.lt)
theorem Inv.Ut(I:Inv X pins σ H s){a:Addr}(h:s.heap.objs.size<=a):a ∉ X.fs:=λhb=>by
 obtain⟨_,o,ho,_⟩:=I.ok.vA.mem hb;exact absurd (Zas (Zam ho) (ZaC I.sz h)) (Zbm _)
theorem Inv.cne(I:Inv X pins σ H s):∀ x c,X.env.cells.lookup x=some c->c≠X.env.locals:=λx c e z=>by
 obtain⟨v,o,ho,hd⟩:=I.cell x c e;obtain⟨m,⟨o',es,ep,ho',hd',_⟩,_⟩:=I.loc;rw[z,ho'] at ho;cases ho;rw[hd'] at hd;cases hd
theorem Inv.vA(I:Inv X pins σ H s):s.heap.FunFrames X.base X.outer:=by
 have all:∀ (l:List Env),(∀ b∈frs l,b∈X.fs)->X.s₀.heap.FunFrames X.base l->s.heap.FunFrames X.base l:=by
  intro l;induction l with
  |nil=>intro _ _;trivial
  |cons env r ih=>
   intro hs hl;obtain⟨hk,⟨L,o,hf,hn,ho,hd⟩,hr⟩:=hl;have hL:L∈X.fs:=hs L (by unfold frs;rw[List.filterMap_cons,hf];exact List.mem_cons_self)
   obtain⟨sl,e⟩:=I.base.slot L o ho (I.ok.frf L hL) hL λz=>I.ok.exfs L z hL;exact⟨hk,⟨L,_,hf,hn,e,hd⟩,ih (λb hb=>hs b (by unfold frs;rw[List.filterMap_cons,hf];exact List.mem_cons_of_mem _ hb)) hr⟩
 exact all X.outer (λ_ hb=>hb) I.ok.vA
theorem Inv.stack(I:Inv X pins σ H s):s.heap.FunFrames X.base X.stack:=by
 rcases I.ok.stk with e|⟨e,hf⟩
 ·rw[e];exact I.vA
 ·rw[e];obtain⟨m,hn,_⟩:=I.loc;refine .cons (by rw[I.ok.kind];decide) hf hn ?_ I.vA
  exact Heap.get?_none_of_le (ZaC I.ok.bsz I.ok.above)
theorem Inv.Ey(I:Inv X pins σ H s):∀ b∈frs X.stack,b∈X.env.locals::X.fs:=λb hb=>by
 rcases I.ok.stk with e|⟨e,hf⟩
 ·rw[e] at hb;exact List.mem_cons_of_mem _ hb
 ·rw[e] at hb;unfold frs at hb;rw[List.filterMap_cons,hf] at hb;exact hb
theorem Inv.GX(I:Inv X pins σ H s):∀ b∈frs X.stack,H b=none:=λb hb=>by
 rcases Zao.mp (I.Ey b hb) with e|hb
 ·rw[e];exact I.free
 ·obtain⟨_,o,ho,_⟩:=I.ok.vA.mem hb;exact I.base.free b o ho (I.ok.frf b hb) λz=>I.ok.exfs b z hb
theorem Inv.step{g':Array GenState}{t':Nat}{d':Drawn}{ch:List Addr}(I:Inv X pins σ H s)
  (hch:∀ b∈ch,(b∈X.ex\/X.s₀.heap.objs.size<=b)/\b≠X.env.locals/\(∀ x c,X.env.cells.lookup x=some c->c≠b)/\∀ p∈X.pn++pins,p.1≠b)
  (keep:∀ b o,b≠X.env.locals->b ∉ X.fs->b ∉ ch->s.heap.get? b=some o->H b=none->h'.get? b=some o)
  (slot:∀ b o,b≠X.env.locals->b∈X.fs->b ∉ ch->s.heap.get? b=some o->H b=none->∃ sl,h'.get? b=some { o with slots:=sl })(free:∀ b o,b ∉ ch->s.heap.get? b=some o->H b=none->H' b=none)
  (there:∀ b o,b ∉ ch->s.heap.get? b=some o->∃ o',h'.get? b=some o')
  (tups:∀ b xs,H b=some (.tup xs)->H' b=some (.tup xs))(frzs:∀ b o u,H b=some (.frz o u)->H' b=some (.frz o u))(tbls:∀ b ps,H b=some (.tbl ps)->∃ more,H' b=some (.tbl (ps++more)))
  (ns:∀ m,s.heap.Ns X.env.locals m->h'.Ns X.env.locals m)(hok:HOk X.prog X.w H' h')(hg:AllBare g') :
  Inv X pins σ H' { s with heap:=h',gens:=g',drawn:=d',toks:=t' }:=by
 have neL:∀ b o,X.s₀.heap.get? b=some o->b≠X.env.locals:=λb o e=>ZaF (Zas (Zam e) I.ok.above);have neC:∀ b o,X.s₀.heap.get? b=some o->b ∉ X.ex->b ∉ ch:=λb o e hx hb=>by
  rcases(hch b hb).1 with z|z
  ·exact hx z
  ·exact absurd (Zas (Zam e) z) (Zbm _)
 have cellK:∀ x c,X.env.cells.lookup x=some c->∀ v,s.heap.IsCell c v->h'.IsCell c v:=λx c e v ⟨o,ho,hd⟩=>by
  have nch:c ∉ ch:=λz=>(hch c z).2.2.1 x c e rfl;by_cases hc:c∈X.fs
  ·obtain⟨sl,q⟩:=slot c o (I.cne x c e) hc nch ho (I.freeC x c e);exact⟨_,q,hd⟩
  ·exact⟨o,keep c o (I.cne x c e) hc nch ho (I.freeC x c e),hd⟩
 refine⟨I.ok,I.os,hg,⟨λb o e n hb hx=>?_,λb o e n hb hx=>?_,λb o e n hx=>?_,λb o e hx=>?_,λb xs e=>tups b xs (I.base.tups b xs e),λb o xs e=>frzs b o xs (I.base.frzs b o xs e),λb ps e=>?_⟩,?_,λx c e=>?_,?_,λx c e=>?_,λp hp=>?_,hok,I.len⟩
 ·exact keep b o (neL b o e) hb (neC b o e hx) (I.base.keep b o e n hb hx) (I.base.free b o e n hx)
 ·obtain⟨sl,e1⟩:=I.base.slot b o e n hb hx;obtain⟨sl',e2⟩:=slot b _ (neL b o e) hb (neC b o e hx) e1 (I.base.free b o e n hx);exact⟨sl',e2⟩
 ·obtain⟨o',e1⟩:=I.base.there b o e hx;exact free b o' (neC b o e hx) e1 (I.base.free b o e n hx)
 ·obtain⟨o',e1⟩:=I.base.there b o e hx;exact there b o' (neC b o e hx) e1
 ·obtain⟨m1,e1⟩:=I.base.tbls b ps e;obtain⟨m2,e2⟩:=tbls b _ e1;exact⟨m1++m2,by rw[e2,Array.append_assoc]⟩
 ·obtain⟨m,hn,hl⟩:=I.loc;refine⟨m,ns m hn,λi x v e1 e2 e3=>?_⟩;obtain⟨u,r,l⟩:=hl i x v e1 e2 e3;refine⟨u,r,?_⟩;rcases l with l|⟨k,c,e,z⟩
  ·exact .inl l
  ·exact .inr ⟨k,c,e,cellK x c e _ z⟩
 ·obtain⟨v,z⟩:=I.cell x c e;exact⟨v,cellK x c e v z⟩
 ·obtain⟨m,⟨o,_,_,ho,_⟩,_⟩:=I.loc;exact free _ o (λz=>(hch _ z).2.1 rfl) ho I.free
 ·obtain⟨v,o,ho,hd⟩:=I.cell x c e;exact free c o (λz=>(hch c z).2.2.1 x c e rfl) ho (I.freeC x c e)
 ·obtain⟨e,n,ne,nf,d⟩:=I.pin p hp;have nch:p.1 ∉ ch:=λz=>(hch p.1 z).2.2.2 p hp rfl;exact⟨keep p.1 p.2 ne nf nch e n,free p.1 p.2 nch e n,ne,nf,d⟩
theorem Inv.un{t':Nat}(I:Inv X pins σ H s)(u:Un X.fs [] H H' s.heap h')(hok:HOk X.prog X.w H' h'):Inv X pins σ H' { s with heap:=h',toks:=t' }:=by
 obtain⟨m,⟨o,es,ep,ho,r⟩,_⟩:=id I.loc;obtain⟨sl,hL⟩:=u.any ho I.free (by simp)
 exact I.step (g':=s.gens) (d':=s.drawn) (ch:=[]) (λ_ z=>nomatch z) (λb o _ hb _ e n=>u.keep b o e n hb (by simp)) (λb o _ hb _ e n=>u.slot b o e n hb (by simp)) (λb o _ e n=>u.free b o e n (by simp)) (λb o _ e=>u.there b o e (by simp)) u.tups u.frzs u.tbls (λm' hm=>by
  obtain⟨o',es',ep',ho',r'⟩:=hm;rw[ho] at ho';cases ho';exact⟨_,es',ep',hL,r'⟩) hok I.bare
theorem Inv.call{g':Array GenState}{t':Nat}{d':Drawn}{ch:List Addr}(I:Inv X pins σ H s)(u:Un (frs X.stack) ch H H' s.heap h')(hok:HOk X.prog X.w H' h')(hg:AllBare g')
  (hch:∀ b∈ch,(b∈X.ex\/X.s₀.heap.objs.size<=b)/\b≠X.env.locals/\(∀ x c,X.env.cells.lookup x=some c->c≠b)/\∀ p∈X.pn++pins,p.1≠b) :
  Inv X pins σ H' { s with heap:=h',gens:=g',drawn:=d',toks:=t' }:=by
 obtain⟨m,⟨o,es,ep,ho,r⟩,_⟩:=id I.loc;obtain⟨sl,hL⟩:=u.any ho I.free λz=>(hch _ z).2.1 rfl;exact I.step (ch:=ch) hch (λb o hL hb hc e n=>u.keep b o e n (λz=>(Zao.mp (I.Ey b z)).elim hL hb) hc) (λb o _ _ hc e n=>u.any e n hc) (λb o hc e n=>u.free b o e n hc) (λb o hc e=>u.there b o e hc) u.tups u.frzs u.tbls (λm' hm=>by
  obtain⟨o',es',ep',ho',r'⟩:=hm;rw[ho] at ho';cases ho';exact⟨_,es',ep',hL,r'⟩) hok hg
theorem Inv.turned{t':Nat}{it:Addr}(I:Inv X pins σ H s)(k:∀ b o,b≠it->s.heap.get? b=some o->h'.get? b=some o)(hn:H it=none)(hL:it≠X.env.locals)
  (h1:it∈X.ex\/X.s₀.heap.objs.size<=it)(h2:∀ x c,X.env.cells.lookup x=some c->c≠it)(h3:∀ p∈X.pn++pins,p.1≠it):Inv X pins σ H { s with heap:=h',toks:=t' }:=by
 have nit:∀ b u,H b=some u->b≠it:=λb u e z=>by rw[z,hn] at e;cases e
 refine I.step (g':=s.gens) (d':=s.drawn) (ch:=[it]) (λb hb=>?_) (λb o _ _ hc e _=>k b o (λz=>hc (by simp[z])) e) (λb o _ _ hc e _=>⟨o.slots,k b o (λz=>hc (by simp[z])) e⟩) (λ_ _ _ _ n=>n)
  (λb o hc e=>⟨o,k b o (λz=>hc (by simp[z])) e⟩) (λ_ _ e=>e) (λ_ _ _ e=>e) (λb ps e=>⟨#[],by rw[e];simp⟩) (λm hm=>?_) (λb u e=>?_) I.bare
 ·have e:b=it:=by simpa using hb
  subst e;exact⟨h1,hL,h2,h3⟩
 ·obtain⟨o,es,ep,ho,r⟩:=hm;exact⟨o,es,ep,k _ o (Za0 hL) ho,r⟩
 ·refine(I.hok b u e).stay (λc v hc q=>k c v ?_ q) (λ_ q=>q) λ_ _ q=>q;rcases hc with z|z
  ·rw[z];exact nit b u e
  ·exact nit c _ z
theorem Inv.tok(I:Inv X pins σ H s)(t:Nat):Inv X pins σ H { s with toks:=t }:=I.un (h':=s.heap) (t':=t) Un.refl I.hok
theorem Inv.kept{t':Nat}(I:Inv X pins σ H s)(k:∀ b u,s.heap.get? b=some u->h'.get? b=some u):Inv X pins σ H { s with heap:=h',toks:=t' }:=I.un (Un.kept k) (I.hok.kept k)
theorem Inv.laid{a:Addr}{o:HO}{t':Nat}(I:Inv X pins σ H s)(k:∀ b u,s.heap.get? b=some u->h'.get? b=some u)(hp:s.heap.objs.size<=a)(new:d8 X.prog X.w (upd H a o) h' a o) :
  Inv X pins σ (upd H a o) { s with heap:=h',toks:=t' }:=I.un (Un.laid k hp (I.hok.fresh hp)) (I.hok.laid k hp new)
theorem Inv.write{x e:Addr}{o:HO}{t':Nat}(I:Inv X pins σ H s)(mu:Mut (H x))(he:e=x\/H e=some (.own x))(k:∀ b u,b≠e->s.heap.get? b=some u->h'.get? b=some u)(heo:∃ u,h'.get? e=some u)
  (new:d8 X.prog X.w (upd H x o) h' x o):Inv X pins σ (upd H x o) { s with heap:=h',toks:=t' }:=I.un (Un.write mu he k heo) (I.hok.write mu he k heo new)
theorem Inv.GZ{pins':List (Addr×Obj)}(I:Inv X pins σ H s)(h:∀ p∈pins',s.heap.get? p.1=some p.2/\H p.1=none/\p.1≠X.env.locals/\p.1 ∉ X.fs/\∀ v,p.2.data≠.cell v):Inv X pins' σ H s:=
 ⟨I.ok,I.os,I.bare,I.base,I.loc,I.cell,I.free,I.freeC,λp hp=>(ZaU.mp hp).elim (λz=>I.pin p (List.mem_append_left _ z)) (h p),I.hok,I.len⟩
theorem Br{N:List Str}(hN:N.Nodup){i j:Nat}{x:Str}(a:N[i]?=some x)(b:N[j]?=some x):i=j:=by
 obtain⟨h1,e1⟩:=Zar.mp a;obtain⟨h2,e2⟩:=Zar.mp b;exact(List.getElem_inj hN).mp (e1.trans e2.symm)
theorem yz{M:Model}{A:Around}{E:Value->Shared->Prop}{i:Nat}{x:Str}{v:V}{u:Value}{Q:Unit->Shared->Prop}(I:Inv X pins σ H s)(hN:X.N.Nodup)(hi:X.N[i]?=some x)(hx:Loc X.env.scope x)(r:RelV v u)
  (h:∀ s',Inv X pins (σ.set i (some v)) H s'->(∃ a,Heap.SameBut a s.heap s'.heap/\(a=X.env.locals\/X.env.cells.lookup x=some a))->Q () s')(hf:X.fn x=true\/X.env.scope.names.lookup x=some .local:=by first|exact .inl rfl|exact .inr rfl|assumption):wpAny M A (storeName X.env x u) Q E s:=by
 obtain⟨m,hn,hl⟩:=id I.loc;have hcls:(X.env.scope.kind==.class||(X.env.scope.kind==.module&&X.env.locals != X.env.globals))=false:=by rw[I.ok.kind];rfl
 have hiσ:i<σ.length:=by rw[I.len];exact(Zar.mp hi).1
 have cne:=I.cne;have tracked:∀ {a:Addr}{h':Heap},(∃ o,s.heap.get? a=some o/\H a=none)->Heap.SameBut a s.heap h'->HOk X.prog X.w H h':=λ{a h'} ha hs b ob e=>by
  obtain⟨_,_,hfree⟩:=ha;refine(I.hok b ob e).stay (λc w' hc q=>(hs.2 c ?_).trans q) (λ_ q=>q) λ_ _ q=>q;rintro rfl;rcases hc with rfl|hc
  ·rw[hfree] at e;cases e
  ·rw[hfree] at hc;cases hc
 rcases hx with hk|hk
 ·refine wpAny_storeName_local hk hn (λh' hn' hs=>?_) hcls;obtain⟨oL,_,_,hoL,_⟩:=id hn;refine h _ ⟨I.ok,I.os,I.bare,⟨λb o e n hb hx=>?_,λb o e n hb hx=>?_,I.base.free,λb o e hx=>?_,I.base.tups,I.base.frzs,I.base.tbls⟩,⟨_,hn',λj y v' e1 e2 e3=>?_⟩,λy c e=>?_,I.free,I.freeC,λp hp=>?_,tracked ⟨oL,hoL,I.free⟩ hs,by simpa using I.len⟩ ⟨_,hs,.inl rfl⟩
  ·exact(hs.2 b (ZaF (Zas (Zam e) I.ok.above))).trans (I.base.keep b o e n hb hx)
  ·obtain⟨sl,e1⟩:=I.base.slot b o e n hb hx;exact⟨sl,(hs.2 b (ZaF (Zas (Zam e) I.ok.above))).trans e1⟩
  ·obtain⟨o',e1⟩:=I.base.there b o e hx;exact⟨o',(hs.2 b (ZaF (Zas (Zam e) I.ok.above))).trans e1⟩
  ·by_cases hj:j=i
   ·subst hj;rw[hi] at e1;cases e1;rw[ZaE hiσ] at e2;cases e2;exact⟨u,r,.inl ⟨hk,by simp⟩⟩
   ·rw[Zad (Za0 hj)] at e2;obtain⟨u',r',q⟩:=hl j y v' e1 e2 e3;refine⟨u',r',?_⟩;rcases q with⟨k,e⟩|⟨k,c,e,z⟩
    ·refine .inl ⟨k,?_⟩;have:y≠x:=λe=>hj (Br hN e1 (e▸hi));simp[this,e]
    ·exact .inr ⟨k,c,e,z.sameBut hs (cne y c e)⟩
  ·obtain⟨w',z⟩:=I.cell y c e;exact⟨w',z.sameBut hs (cne y c e)⟩
  ·obtain⟨e,n,ne,nf,d⟩:=I.pin p hp;exact⟨(hs.2 p.1 ne).trans e,n,ne,nf,d⟩
 ·have hfn:X.fn x=true:=by
   rcases hf with z|z
   ·exact z
   ·rw[z] at hk;cases hk
  obtain⟨c,hc⟩:=I.ok.has x (.inl hk);obtain⟨w',z⟩:=I.cell x c hc;refine wpAny_storeName_cell I.ok.kind hk hc z (λh' hc' hs=>?_);obtain⟨oc,hoc,hocd⟩:=id z;refine h { s with heap:=h' } ⟨I.ok,I.os,I.bare,⟨λb o e n hb hx=>?_,λb o e n hb hx=>?_,I.base.free,λb o e hx=>?_,I.base.tups,I.base.frzs,I.base.tbls⟩,⟨m,hn.sameBut hs (Za0 (cne x c hc)),λj y v' e1 e2 e3=>?_⟩,λy c' e=>?_,I.free,I.freeC,λp hp=>?_,tracked ⟨oc,hoc,I.freeC x c hc⟩ hs,by simpa using I.len⟩ ⟨c,hs,.inr hc⟩
  ·exact(hs.2 b (ZaF (Zas (Zam e) (I.ok.cab x c hfn hc)))).trans (I.base.keep b o e n hb hx)
  ·obtain⟨sl,e1⟩:=I.base.slot b o e n hb hx;exact⟨sl,(hs.2 b (ZaF (Zas (Zam e) (I.ok.cab x c hfn hc)))).trans e1⟩
  ·obtain⟨o',e1⟩:=I.base.there b o e hx;exact⟨o',(hs.2 b (ZaF (Zas (Zam e) (I.ok.cab x c hfn hc)))).trans e1⟩
  ·by_cases hj:j=i
   ·subst hj;rw[hi] at e1;cases e1;rw[ZaE hiσ] at e2;cases e2;exact⟨u,r,.inr ⟨.inl hk,c,hc,hc'⟩⟩
   ·rw[Zad (Za0 hj)] at e2;obtain⟨u',r',q⟩:=hl j y v' e1 e2 e3;refine⟨u',r',?_⟩;rcases q with q|⟨k,c',e,z'⟩
    ·exact .inl q
    ·refine .inr ⟨k,c',e,z'.sameBut hs ?_⟩;rintro rfl;exact hj (Br hN e1 (I.ok.inj _ _ _ e hc▸hi))
  ·by_cases hcc:c'=c
   ·subst hcc;exact⟨_,hc'⟩
   ·obtain⟨w2,z2⟩:=I.cell y c' e;exact⟨w2,z2.sameBut hs hcc⟩
  ·obtain⟨e,n,ne,nf,d⟩:=I.pin p hp;refine⟨(hs.2 p.1 ?_).trans e,n,ne,nf,d⟩;intro q;rw[q,hoc] at e;have q':oc=p.2:=Zaa e;exact d w' (by rw[<-q'];exact hocd)
theorem Bs{M:Model}{A:Around}{E:Value->Shared->Prop}{i:Nat}{x:Str}{v:V}{u:Value}{Q:Unit->Shared->Prop}(I:Inv X pins σ H s)(hN:X.N.Nodup)(hi:X.N[i]?=some x)(hx:Loc X.env.scope x)(r:RelV v u)
  (h:∀ s',Inv X pins (σ.set i (some v)) H s'->Q () s')(hf:X.fn x=true\/X.env.scope.names.lookup x=some .local:=by first|exact .inl rfl|exact .inr rfl|assumption):wpAny M A (storeName X.env x u) Q E s:=
 yz I hN hi hx r (λs' I' _=>h s' I') hf
theorem Inv.call'{s':Shared}{ch:List Addr}(I:Inv X pins σ H s)(ho:s'.os=s.os)(u:Un (frs X.stack) ch H H' s.heap s'.heap)(hok:HOk X.prog X.w H' s'.heap)(hg:AllBare s'.gens)
  (hch:∀ b∈ch,(b∈X.ex\/X.s₀.heap.objs.size<=b)/\b≠X.env.locals/\(∀ x c,X.env.cells.lookup x=some c->c≠b)/\∀ p∈X.pn++pins,p.1≠b):Inv X pins σ H' s':=by
 obtain⟨h',g',d',t',o'⟩:=s';have e:o'=s.os:=ho;subst e;exact I.call (g':=g') (t':=t') (d':=d') u hok hg hch
end
noncomputable abbrev XK:=Value->Option Addr->Hp->Prop
noncomputable abbrev St:=List (Option V)
noncomputable abbrev VK:=V->Hp->Prop
noncomputable abbrev TE:=St->Hp->VK->Prop
noncomputable abbrev TT:=St->Hp->(Bool->Hp->Prop)->Prop
noncomputable abbrev TA:=St->Hp->(List V->Hp->Prop)->Prop
structure Ends where
 nx:St->Hp->Prop
 rt:VK
 bk:St->Hp->Prop:=λ_ _=>False
 ct:St->Hp->Prop:=λ_ _=>False
noncomputable abbrev TS:=Ends->St->Hp->Prop
def EP(X:Cx)(pins:List (Addr×Obj))(σ:St)(Q:VK)(u:Value)(s':Shared):Prop:=∃ v H',Inv X pins σ H' s'/\RelV v u/\Q v H'
def TP(X:Cx)(pins:List (Addr×Obj))(σ:St)(Q:Bool->Hp->Prop)(b:Bool)(s':Shared):Prop:=∃ H',Inv X pins σ H' s'/\Q b H'
def AP(X:Cx)(pins:List (Addr×Obj))(σ:St)(Q:List V->Hp->Prop)(us:List Value)(s':Shared):Prop:=∃ vs H',Inv X pins σ H' s'/\Vals vs us/\Q vs H'
def SP(X:Cx)(pins:List (Addr×Obj))(D:Ends)(f:Flow)(s':Shared):Prop:=
 match f with
 |.next=>∃ σ' H',Inv X pins σ' H' s'/\D.nx σ' H'
 |.brk=>∃ σ' H',Inv X pins σ' H' s'/\D.bk σ' H'
 |.cont=>∃ σ' H',Inv X pins σ' H' s'/\D.ct σ' H'
 |.ret u=>∃ v σ' H',Inv X pins σ' H' s'/\RelV v u/\D.rt v H'
def PE(X:Cx)(e:Expr)(t:TE):Prop:=
 ∀ (pins:List (Addr×Obj)) (s:Shared) (σ:St) (H:Hp) (Q:VK),Inv X pins σ H s->t σ H Q->wpAny (model X.prog X.w) X.A (eval e X.env) (EP X pins σ Q) X.xe s
def PT(X:Cx)(e:Expr)(t:TT):Prop:=
 ∀ (pins:List (Addr×Obj)) (s:Shared) (σ:St) (H:Hp) (Q:Bool->Hp->Prop),Inv X pins σ H s->t σ H Q->wpAny (model X.prog X.w) X.A (isTrue e X.env (eval e X.env)) (TP X pins σ Q) X.xe s
def PW(X:Cx)(e:Expr)(t:TT):Prop:=
 ∀ (whole:Sem Value) (pins:List (Addr×Obj)) (s:Shared) (σ:St) (H:Hp) (Q:Bool->Hp->Prop),Inv X pins σ H s->t σ H Q->wpAny (model X.prog X.w) X.A (isTrue e X.env whole) (TP X pins σ Q) X.xe s
theorem PW.pt{X:Cx}{e:Expr}{t:TT}(h:PW X e t):PT X e t:=h _
def PA(X:Cx)(es:List Expr)(t:TA):Prop:=
 ∀ (pos:Pos) (pins:List (Addr×Obj)) (s:Shared) (σ:St) (H:Hp) (Q:List V->Hp->Prop),Inv X pins σ H s->t σ H Q->wpAny (model X.prog X.w) X.A (spliced (backTo pos (starEach es X.env))) (AP X pins σ Q) X.xe s
def PS(X:Cx)(st:Stmt)(t:TS):Prop:=
 ∀ (pins:List (Addr×Obj)) (s:Shared) (σ:St) (H:Hp) (D:Ends),Inv X pins σ H s->t D σ H->wpAny (model X.prog X.w) X.A (exec st X.env) (SP X pins D) X.xe s
def PSs(X:Cx)(st:List Stmt)(t:TS):Prop:=
 ∀ (pins:List (Addr×Obj)) (s:Shared) (σ:St) (H:Hp) (D:Ends),Inv X pins σ H s->t D σ H->wpAny (model X.prog X.w) X.A (execs st X.env) (SP X pins D) X.xe s
theorem thn{α:Type}{t:Sem α}{Q Q':α->Shared->Prop}{M:Model}{A:Around}{E:Value->Shared->Prop}{s:Shared}(h:wpAny M A t Q E s)(hQ:∀ a s,Q a s->Q' a s):wpAny M A t Q' E s:=ZaY h hQ λ_ _ x=>x
section
variable{X:Cx}
def o9(i:Nat):TE:=λσ H Q=>∃ v,σ[i]?=some (some v)/\Q v H
def tC(v:V):TE:=λ_ H Q=>Q v H
theorem Ez{i:Nat}{x:Str}{pos:Pos}(hN:X.N[i]?=some x)(hv:Vis X.env.scope x)(hd:(x==("__debug__":Str))=false:=by decide)(hcd:(x==("__classdict__":Str))=false:=by decide):PE X (.Name x pos) (o9 i):=by
 intro pins s σ H Q I h;obtain⟨v,e,h⟩:=h;obtain⟨m,hn,hl⟩:=I.loc;obtain⟨u,r,l⟩:=hl i x v hN e hv;have fin:EP X pins σ Q u s:=⟨v,H,I,r,h⟩;rcases l with⟨hk,hm⟩|⟨hk,c,hc,hcell⟩
 ·exact wpAny_Name (wpAny_loadName_local I.ok.kind hk hn hm fin) hd
 ·rcases hk with hk|hk
  ·exact wpAny_Name (wpAny_loadName_cell I.ok.kind hk hc hcell fin) hd
  ·exact wpAny_Name (wpAny_loadName_free I.ok.kind hk hc hcell fin hcd) hd
theorem aA{i j pos}:PE X (.Constant (.int i) j pos) (tC (.int i)):=λ_ _ _ H _ I h=>wpAny_Constant_int ⟨.int i,H,I.tok _,⟨_,rfl⟩,h⟩
theorem qP{b j pos}:PE X (.Constant (.bool b) j pos) (tC (.bl b)):=λ_ _ _ H _ I h=>Constant_bool ⟨.bl b,H,I,rfl,h⟩
theorem uq{j pos}:PE X (.Constant .none j pos) (tC .non):=λ_ _ _ H _ I h=>Constant_none ⟨.non,H,I,rfl,h⟩
theorem jR{x j pos}:PE X (.Constant (.str x) j pos) (tC (.str x)):=λ_ _ _ H _ I h=>Calls.Constant_str ⟨.str x,H,I.tok _,⟨_,rfl⟩,h⟩
def Gl(X:Cx)(x:Str):Prop:=X.env.kindOf x=some .globalImplicit
theorem Ha{E:Value->Shared->Prop}{pins:List (Addr×Obj)}{s:Shared}{σ:St}{H:Hp}{x:Str}{u:Value}{pos:Pos}{Q:Value->Shared->Prop}(I:Inv X pins σ H s)(hg:Gl X x)(hm:X.mg x=some u)(h:Q u s)
  (hd:(x==("__debug__":Str))=false:=by decide):wpAny (model X.prog X.w) X.A (eval (.Name x pos) X.env) Q E s:=
 Calls.Name_function_global I.ok.kind hg (Calls.loadGlobal_global (by rw[I.ok.glob];exact I.mod.glob.keeps I.bk) hm h) hd
theorem ur{E:Value->Shared->Prop}{pins:List (Addr×Obj)}{s:Shared}{σ:St}{H:Hp}{x:Str}{u:Value}{pos:Pos}{Q:Value->Shared->Prop}(I:Inv X pins σ H s)(hg:Gl X x)(hm:X.mg x=none)(hv:bootBuiltins x=some u)(h:Q u s)
  (hn:x≠"__name__":=by decide)(hd:(x==("__debug__":Str))=false:=by decide):wpAny (model X.prog X.w) X.A (eval (.Name x pos) X.env) Q E s:=by
 obtain⟨mb,h1,h2⟩:=I.mod.blt;exact Calls.Name_function_global I.ok.kind hg (Calls.loadGlobal_builtin (by rw[I.ok.glob];exact I.mod.glob.keeps I.bk) hm (by rw[I.ok.blt];exact h1.keeps I.bk) ((h2 x hn).trans hv) h) hd
theorem Nu{x:Str}{v:V}{u:Value}{pos:Pos}(hg:Gl X x)(hm:X.mg x=some u)(r:RelV v u)(hd:(x==("__debug__":Str))=false:=by decide):PE X (.Name x pos) (tC v):=
 λ_ _ _ H _ I h=>Ha I hg hm ⟨v,H,I,r,h⟩ hd
theorem Nv{x:Str}{v:V}{u:Value}{pos:Pos}(hg:Gl X x)(hm:X.mg x=none)(hv:bootBuiltins x=some u)(r:RelV v u)(hn:x≠"__name__":=by decide)(hd:(x==("__debug__":Str))=false:=by decide):PE X (.Name x pos) (tC v):=
 λ_ _ _ H _ I h=>ur I hg hm hv ⟨v,H,I,r,h⟩ hn hd
variable{a b:Expr}{ta tb:TE}{pos:Pos}
def tB(t:TE):TT:=λσ H Q=>t σ H λx H1=>∃ c,x=.bl c/\Q c H1
theorem lQ{e:Expr}{t:TE}(h:PE X e t)(he:∀ whole,isTrue e X.env whole=(do let v <-whole;standAt e.pos;holding [v] (truthy v)):=by intro _;rfl):PT X e (tB t):=by
 intro pins s σ H Q I hw;refine isTrue_plain (thn (h pins s σ H _ I hw) ?_) (he _);rintro v s1 ⟨x,H1,I1,r1,q1⟩;obtain⟨d,rfl,q⟩:=q1;cases r1;exact wpAny_truthy_bool ⟨H1,I1,q⟩
variable{tA tB':TT}{rest:List Expr}
def SN(t u:TT):TT:=λσ H Q=>t σ H λc H1=>if c=true then u σ H1 Q else Q false H1
def tOr(t u:TT):TT:=λσ H Q=>t σ H λc H1=>if c=true then Q true H1 else u σ H1 Q
def SQ(t:TT):TT:=λσ H Q=>t σ H λc H1=>Q (!c) H1
theorem qm(ha:PT X a tA):PW X (.BoolOp .And [a] pos) tA:=by
 intro wh pins s σ H Q I h;refine isTrue_and (thn (ha pins s σ H Q I h) λc s1 e=>?_);cases c with
 |true=>exact isTrue_and_nil e
 |false=>exact e
theorem vY(ha:PT X a tA):PW X (.BoolOp .Or [a] pos) tA:=by
 intro wh pins s σ H Q I h;refine isTrue_or (thn (ha pins s σ H Q I h) λc s1 e=>?_);cases c with
 |false=>exact isTrue_or_nil e
 |true=>exact e
theorem ut(ha:PT X a tA)(hb:PW X (.BoolOp .And (b::rest) pos) tB'):PW X (.BoolOp .And (a::b::rest) pos) (SN tA tB'):=by
 intro wh pins s σ H Q I h;refine isTrue_and (thn (ha pins s σ H _ I h) ?_);rintro c s1 ⟨H1,I1,q1⟩;cases c with
 |true=>exact hb wh pins s1 σ H1 Q I1 q1
 |false=>exact⟨H1,I1,q1⟩
theorem Bt(ha:PT X a tA)(hb:PW X (.BoolOp .Or (b::rest) pos) tB'):PW X (.BoolOp .Or (a::b::rest) pos) (tOr tA tB'):=by
 intro wh pins s σ H Q I h;refine isTrue_or (thn (ha pins s σ H _ I h) ?_);rintro c s1 ⟨H1,I1,q1⟩;cases c with
 |true=>exact⟨H1,I1,q1⟩
 |false=>exact hb wh pins s1 σ H1 Q I1 q1
theorem pq(ha:PT X a tA):PT X (.UnaryOp .Not a pos) (SQ tA):=by
 intro pins s σ H Q I h;exact isTrue_not (ha pins s σ H (λc H1=>Q (!c) H1) I h)
def Qp(ta tb:TE):TE:=λσ H Q=>ta σ H λx H1=>∃ c,x=.bl c/\if c=true then tb σ H1 Q else Q (.bl false) H1
def SX(ta tb:TE):TE:=λσ H Q=>ta σ H λx H1=>∃ c,x=.bl c/\if c=true then Q (.bl true) H1 else tb σ H1 Q
def Qq(ta:TE):TE:=λσ H Q=>ta σ H λx H1=>∃ c,x=.bl c/\Q (.bl (!c)) H1
theorem uv{op}{t:TE}(h:PE X a t):PE X (.BoolOp op [a] pos) t:=λpins s σ H Q I hw=>BoolOp_one (h pins s σ H Q I hw)
theorem uw(ha:PE X a ta)(hb:PE X (.BoolOp .And (b::rest) pos) tb):PE X (.BoolOp .And (a::b::rest) pos) (Qp ta tb):=by
 intro pins s σ H Q I h;refine BoolOp_and (thn (ha pins s σ H _ I h) ?_);rintro v s1 ⟨x,H1,I1,r1,q1⟩;obtain⟨c,rfl,q1⟩:=q1;cases r1;refine wpAny_truthy_bool ?_;cases c with
 |true=>exact hb pins s1 σ H1 Q I1 q1
 |false=>exact⟨.bl false,H1,I1,rfl,q1⟩
theorem S5(ha:PE X a ta)(hb:PE X (.BoolOp .Or (b::rest) pos) tb):PE X (.BoolOp .Or (a::b::rest) pos) (SX ta tb):=by
 intro pins s σ H Q I h;refine BoolOp_or (thn (ha pins s σ H _ I h) ?_);rintro v s1 ⟨x,H1,I1,r1,q1⟩;obtain⟨c,rfl,q1⟩:=q1;cases r1;refine wpAny_truthy_bool ?_;cases c with
 |false=>exact hb pins s1 σ H1 Q I1 q1
 |true=>exact⟨.bl true,H1,I1,rfl,q1⟩
theorem Q8(ha:PE X a ta):PE X (.UnaryOp .Not a pos) (Qq ta):=by
 intro pins s σ H Q I h;refine UnaryOp_ (thn (ha pins s σ H _ I h) ?_);rintro v s1 ⟨x,H1,I1,r1,q1⟩;obtain⟨c,rfl,q1⟩:=q1;cases r1;exact not_of (wpAny_truthy_bool ⟨.bl (!c),H1,I1,rfl,q1⟩)
def tIf(t:TT)(ta tb:TE):TE:=λσ H Q=>t σ H λc H1=>if c=true then ta σ H1 Q else tb σ H1 Q
theorem Bu{c:Expr}(hc:PT X c tA)(ha:PE X a ta)(hb:PE X b tb):PE X (.IfExp c a b pos) (tIf tA ta tb):=by
 intro pins s σ H Q I h;refine wpAny_IfExp (thn (hc pins s σ H _ I h) ?_);rintro d s1 ⟨H1,I1,q1⟩;cases d with
 |true=>exact ha pins s1 σ H1 Q I1 q1
 |false=>exact hb pins s1 σ H1 Q I1 q1
end
def SqL(K:Frag)(H:Hp)(a:Addr)(xs:List V):Prop:=
 Rd H a (.lst xs) \/
  ∃ (o:Obj) (its:Array Value) (n:Nat),K.lookup a=some o/\o.cls=.type "list"/\o.dict=none/\o.data=.seq its n/\its.size<=sizeLine/\Vals xs its.toList
def SqT(K:Frag)(H:Hp)(a:Addr)(xs:List V):Prop:=
 Rd H a (.tup xs) \/
  ∃ (o:Obj) (its:Array Value) (n:Nat),K.lookup a=some o/\o.cls=.type "tuple"/\o.data=.seq its n/\its.size<=sizeLine/\Vals xs its.toList
def Uu:Value->Option V
 |.none=>some .non
 |.bool b=>some (.bl b)
 |.int i _=>some (.int i)
 |.str x _=>some (.str x)
 |.bytes b _=>some (.byt b)
 |.float b _=>some (.flt b)
 |.ref a=>some (.ref a)
 |.type n=>some (.ty n)
 |_=>none
theorem RelV.abs{x:V}{u:Value}(r:RelV x u):Uu u=some x:=by
 cases x with
 |non=>cases r;rfl
 |bl _=>cases r;rfl
 |int _=>obtain⟨t,rfl⟩:=r;rfl
 |str _=>obtain⟨t,rfl⟩:=r;rfl
 |byt _=>obtain⟨t,rfl⟩:=r;rfl
 |flt _=>obtain⟨t,rfl⟩:=r;rfl
 |ref _=>cases r;rfl
 |ty _=>cases r;rfl
theorem RelV.inj{x y:V}{u:Value}(r:RelV x u)(q:RelV y u):x=y:=Zaa (r.abs.symm.trans q.abs)
theorem Vals.inj:∀ {xs ys:List V}{us:List Value},Vals xs us->Vals ys us->xs=ys
 |_,_,_,.nil,.nil=>rfl
 |_,_,_,.cons r t,.cons r' t'=>by rw[r.inj r',Vals.inj t t']
section
variable{X:Cx}{pins:List (Addr×Obj)}{σ:St}{H:Hp}{s:Shared}{a:Addr}{xs ys:List V}
theorem SqL.of{K:Frag}(h:H a=some (.lst xs)):SqL K H a xs:=.inl (.inl h)
theorem SqT.of{K:Frag}(h:H a=some (.tup xs)):SqT K H a xs:=.inl (.inl h)
theorem Inv.list(I:Inv X pins σ H s)(h:SqL X.K H a xs):∃ its:List Value,Vals xs its/\PlainL s.heap a its.toArray/\xs.length<=sizeLine:=by
 rcases h with h|⟨o,its,n,hk,hc,hd,hs,hz,r⟩
 ·obtain⟨z,its,n,r,e⟩:=h.ok I.hok;exact⟨its,r,⟨_,n,e,rfl,rfl,rfl⟩,z⟩
 ·refine⟨its.toList,r,⟨o,n,I.kIn a o hk,hc,hd,by simpa using hs⟩,?_⟩
  have e:=r.length;simp only[Za9] at e;lia
theorem Inv.tuple(I:Inv X pins σ H s)(h:SqT X.K H a xs):∃ its:List Value,Vals xs its/\IsTup s.heap a its.toArray/\xs.length<=sizeLine:=by
 rcases h with h|⟨o,its,n,hk,hc,hs,hz,r⟩
 ·obtain⟨z,its,r,p⟩:=h.ok I.hok;exact⟨its,r,p.1,z⟩
 ·refine⟨its.toList,r,⟨o,I.kIn a o hk,hc,n,by simpa using hs⟩,?_⟩
  have e:=r.length;simp only[Za9] at e;omega
theorem Inv.vZ(I:Inv X pins σ H s)(h:SqL X.K H a xs)(h':SqL X.K H a ys):xs=ys:=by
 obtain⟨its,r,⟨o,n,e,_,_,d⟩,_⟩:=I.list h;obtain⟨its',r',⟨o',n',e',_,_,d'⟩,_⟩:=I.list h';rw[e] at e';cases e';rw[d] at d';injection d' with d1 _
 have:its=its':=by simpa using congrArg Array.toList d1
 subst this;exact r.inj r'
theorem Inv.yC(I:Inv X pins σ H s)(h:SqT X.K H a xs)(h':SqT X.K H a ys):xs=ys:=by
 obtain⟨its,r,⟨o,e,_,n,d⟩,_⟩:=I.tuple h;obtain⟨its',r',⟨o',e',_,n',d'⟩,_⟩:=I.tuple h';rw[e] at e';cases e';rw[d] at d';injection d' with d1 _
 have:its=its':=by simpa using congrArg Array.toList d1
 subst this;exact r.inj r'
end
noncomputable abbrev Cx.wish(X:Cx)(E:Value->Shared->Prop):Cx:={ X with xe:=E }
noncomputable abbrev Cx.nox(X:Cx):Cx:=X.wish λ_ _=>False
theorem Cx.Ok.wish{X:Cx}(ok:X.Ok)(E:Value->Shared->Prop):(X.wish E).Ok:=
 ⟨ok.mod,ok.kind,ok.glob,ok.blt,ok.above,ok.inj,ok.has,ok.cab,ok.hd,ok.frames,ok.stk,ok.exf,ok.bs,ok.bsz,ok.noex,ok.exfs,ok.vA,ok.frf⟩
theorem Cx.Ok.pA{X:Cx}{E:Value->Shared->Prop}(ok:(X.wish E).Ok):X.Ok:=
 ⟨ok.mod,ok.kind,ok.glob,ok.blt,ok.above,ok.inj,ok.has,ok.cab,ok.hd,ok.frames,ok.stk,ok.exf,ok.bs,ok.bsz,ok.noex,ok.exfs,ok.vA,ok.frf⟩
section
variable{X:Cx}{pins:List (Addr×Obj)}{σ:St}{H:Hp}{s:Shared}{E:Value->Shared->Prop}
theorem Inv.wish(I:Inv X pins σ H s)(E:Value->Shared->Prop):Inv (X.wish E) pins σ H s:=⟨I.ok.wish E,I.os,I.bare,I.base,I.loc,I.cell,I.free,I.freeC,I.pin,I.hok,I.len⟩
theorem Inv.pA(I:Inv (X.wish E) pins σ H s):Inv X pins σ H s:=⟨I.ok.pA,I.os,I.bare,I.base,I.loc,I.cell,I.free,I.freeC,I.pin,I.hok,I.len⟩
theorem SP.pA{D:Ends}{f:Flow}{s':Shared}(h:SP (X.wish E) pins D f s'):SP X pins D f s':=by
 cases f with
 |next=>obtain⟨σ',H',I,q⟩:=h;exact⟨σ',H',I.pA,q⟩
 |brk=>obtain⟨σ',H',I,q⟩:=h;exact⟨σ',H',I.pA,q⟩
 |cont=>obtain⟨σ',H',I,q⟩:=h;exact⟨σ',H',I.pA,q⟩
 |ret u=>obtain⟨v,σ',H',I,r,q⟩:=h;exact⟨v,σ',H',I.pA,r,q⟩
theorem PSs.nox{st:List Stmt}{t:TS}(h:PSs X.nox st t):PSs X st t:=λpins s σ H D I hw=>
 ZaY (h pins s σ H D (I.wish _) hw) (λ_ _ q=>q.pA) λ_ _ z=>False.elim z
end
section
variable{X:Cx}{st:Stmt}{rest:List Stmt}{t u:TS}{e:Expr}{te:TE}{pos:Pos}
def Qs:TS:=λD σ H=>D.nx σ H
def Q9(t u:TS):TS:=λD σ H=>t { D with nx:=u D } σ H
theorem cB:PSs X [] Qs:=λ_ _ σ H _ I h=>wpAny_execs_nil ⟨σ,H,I,h⟩
theorem aC(h1:PS X st t)(h2:PSs X rest u):PSs X (st::rest) (Q9 t u):=by
 intro pins s σ H D I h;refine wpAny_execs_cons (thn (h1 pins s σ H { D with nx:=u D } I h) λf s1 q=>?_);cases f with
 |next=>
  obtain⟨σ',H',I',q⟩:=q;exact h2 pins s1 σ' H' D I' q
 |ret v=>exact q
 |brk=>exact q
 |cont=>exact q
theorem aN(h1:PS X st t):PSs X [st] t:=by
 intro pins s σ H D I h;refine wpAny_execs_cons (thn (h1 pins s σ H D I h) λf s1 q=>?_);cases f with
 |next=>exact wpAny_execs_nil q
 |ret v=>exact q
 |brk=>exact q
 |cont=>exact q
theorem Inv.quiet{pins:List (Addr×Obj)}{σ:St}{H:Hp}{s:Shared}(I:Inv X pins σ H s):interactive X.env=false:=by simp[interactive,I.ok.kind]
def Kg(te:TE):TS:=λD σ H=>te σ H λ_ H1=>D.nx σ H1
theorem fM(he:PE X e te)(hs:swapsWith e none pos.line X.env=pure false:=by rfl):PS X (.Expr e pos) (Kg te):=by
 intro pins s σ H D I h;exact wpAny_Expr_any (thn (he pins s σ H _ I h) λv s1 ⟨x,H1,I1,r1,q1⟩=>⟨σ,H1,I1,q1⟩) I.quiet hs
def IV(te:TE):TS:=λD σ H=>te σ H D.rt
theorem bw(he:PE X e te):PS X (.Return (some e) pos) (IV te):=by
 intro pins s σ H D I h;exact wpAny_Return_some (thn (he pins s σ H _ I h) λv s1 ⟨x,H1,I1,r1,q1⟩=>⟨x,σ,H1,I1,r1,q1⟩)
def S6(c:TT)(t u:TS):TS:=λD σ H=>c σ H λb H1=>if b=true then t D σ H1 else u D σ H1
theorem cX{c:Expr}{a b:List Stmt}{tc:TT}(hc:PT X c tc)(ha:PSs X a t)(hb:PSs X b u):PS X (.If c a b pos) (S6 tc t u):=by
 intro pins s σ H D I h;refine wpAny_If (thn (hc pins s σ H _ I h) ?_);rintro d s1 ⟨H1,I1,q1⟩;cases d with
 |true=>exact ha pins s1 σ H1 D I1 q1
 |false=>exact hb pins s1 σ H1 D I1 q1
def Kh:TS:=λ_ _ _=>False
theorem Bv:PS X st Kh:=λ_ _ _ _ _ _ h=>h.elim
end
noncomputable abbrev TG:=V->St->Hp->(St->Hp->Prop)->Prop
noncomputable abbrev TGs:=List V->St->Hp->(St->Hp->Prop)->Prop
def PG(X:Cx)(target:Expr)(t:TG):Prop:=
 ∀ (pins:List (Addr×Obj)) (s:Shared) (σ:St) (H:Hp) (v:V) (u:Value) (Q:St->Hp->Prop),Inv X pins σ H s->RelV v u->t v σ H Q ->
  wpAny (model X.prog X.w) X.A (assign target X.env u) (λ_ s'=>∃ σ' H',Inv X pins σ' H' s'/\Q σ' H') X.xe s
def PGs(X:Cx)(ts:List Expr)(t:TGs):Prop:=
 ∀ (pins:List (Addr×Obj)) (s:Shared) (σ:St) (H:Hp) (vs:List V) (us:List Value) (Q:St->Hp->Prop),Inv X pins σ H s->Vals vs us->t vs σ H Q ->
  wpAny (model X.prog X.w) X.A (assignInOrder ((assignEach ts X.env).map (·.2)) us) (λ_ s'=>∃ σ' H',Inv X pins σ' H' s'/\Q σ' H') X.xe s
noncomputable abbrev Ra:=V->V->V->Hp->(Hp->Prop)->Prop
def S7(X:Cx)(t:Ra):Prop:=
 ∀ (pins:List (Addr×Obj)) (s:Shared) (σ:St) (H:Hp) (o i v:V) (ov iv u:Value) (Q:Hp->Prop),Inv X pins σ H s->RelV o ov->RelV i iv->RelV v u->t o i v H Q ->
  wpAny (model X.prog X.w) X.A (setItem ov iv u) (λ_ s'=>∃ H',Inv X pins σ H' s'/\Q H') X.xe s
section
variable{X:Cx}{pos:Pos}
def uY(i:Nat):TG:=λv σ H Q=>Q (σ.set i (some v)) H
theorem bH{i:Nat}{x:Str}(hN:X.N.Nodup)(hi:X.N[i]?=some x)(hx:Loc X.env.scope x)(hf:X.fn x=true\/X.env.scope.names.lookup x=some .local:=by first|exact .inl rfl|exact .inr rfl|assumption):PG X (.Name x pos) (uY i):=by
 intro pins s σ H v u Q I r h;exact wpAny_assign_Name (Bs I hN hi hx r (λs' I'=>⟨_,H,I',h⟩) hf)
def S8:TGs:=λvs σ H Q=>vs=[]/\Q σ H
def Qt(t:TG)(u:TGs):TGs:=λvs σ H Q=>∃ v r,vs=v::r/\t v σ H λσ' H'=>u r σ' H' Q
theorem jy:PGs X [] S8:=by
 intro pins s σ H vs us Q I r h;obtain⟨e,h⟩:=h;subst e;cases r;exact assignInOrder_nil ⟨σ,H,I,h⟩
theorem cG{e:Expr}{es:List Expr}{t:TG}{u:TGs}(h1:PG X e t)(h2:PGs X es u)
  (hs:(assignEach (e::es) X.env).map (·.2)=assign e X.env::(assignEach es X.env).map (·.2):=by rfl):PGs X (e::es) (Qt t u):=by
 intro pins s σ H vs us Q I r h;obtain⟨v,vr,e1,h⟩:=h;subst e1;cases r with
 |cons r rr=>
  rw[hs];refine assignInOrder_cons (thn (h1 pins s σ H _ _ _ I r h) ?_);rintro _ s1 ⟨σ1,H1,I1,q1⟩;exact h2 pins s1 σ1 H1 _ _ Q I1 rr q1
def Rc(K:Frag)(n:Nat)(t:TGs):TG:=λv σ H Q=>∃ a xs,v=.ref a/\SqT K H a xs/\xs.length=n/\t xs σ H Q
theorem nj{es:List Expr}{k:Nat}{t:TGs}{n:Nat}(hc:X.calm=true)(h:PGs X es t)
  (hn:(assignEach es X.env).length=n:=by rfl)(hst:(assignEach es X.env).findIdx? (·.1)=none:=by rfl):PG X (.Tuple es k pos) (Rc X.K n t):=by
 intro pins s σ H v u Q I r hw;obtain⟨a,xs,e1,hq,hl,hw⟩:=hw;subst e1;cases r;obtain⟨its,rv,ht,hz⟩:=I.tuple hq;refine assign_Tuple_tuple (I.ok.hd hc) ht (by simp[hn,<-hl,rv.length]) hst λh' hx=>?_
 have I1:Inv X pins σ H { s with heap:=h' }:=I.kept (t':=s.toks) λb o e=>hx b o (ZaF (Zam e)) e;exact h pins _ σ H xs _ Q I1 (by simpa using rv) hw
def Ny(to ti:TE)(t:Ra):TG:=λv σ H Q=>to σ H λo H1=>ti σ H1 λi H2=>t o i v H2 λH3=>Q σ H3
theorem EY{o i:Expr}{to ti:TE}{t:Ra}(ho:PE X o to)(hi:PE X i ti)(hs:S7 X t)
  (ha:∀ v,assign (.Subscript o i pos) X.env v=(do
   let ov <-holding [v] (eval o X.env)
   let iv <-holding [v,ov] (eval i X.env)
   standAt pos
   holding [v,ov,iv] (setItem ov iv v)
   release [v,ov,iv] []):=by intro _;rfl):PG X (.Subscript o i pos) (Ny to ti t):=by
 intro pins s σ H v u Q I r h;rw[ha];refine Zah (wpAny_holding (thn (ho pins s σ H _ I h) ?_));rintro ov s1 ⟨x,H1,I1,r1,q1⟩;refine Zah (wpAny_holding (thn (hi pins s1 σ H1 _ I1 q1) ?_));rintro iv s2 ⟨y,H2,I2,r2,q2⟩;refine Zah (wpAny_standAt (Zah (wpAny_holding (thn (hs pins s2 σ H2 x y v ov iv u _ I2 r1 r2 r q2) ?_))));rintro _ s3 ⟨H3,I3,q3⟩;exact wpAny_release ⟨σ,H3,I3,q3⟩
def ye(te:TE)(g:TG):TS:=λD σ H=>te σ H λx H1=>g x σ H1 D.nx
theorem zq{tg e:Expr}{te:TE}{g:TG}(he:PE X e te)(hg:PG X tg g)(hs:swapsWithSole [tg] e pos.line X.env=pure false:=by rfl)(hw:swappedStores [tg] e X.env=pure none:=by rfl)
  (h1:(assignEach [tg] X.env).map (·.2)=[assign tg X.env]:=by rfl):PS X (.Assign [tg] e pos) (ye te g):=by
 intro pins s σ H D I h;refine wpAny_Assign_stores (thn (he pins s σ H _ I h) ?_) hs hw;rintro v s1 ⟨x,H1,I1,r1,q1⟩;rw[h1];exact thn (hg pins s1 σ H1 x v _ I1 r1 q1) λ_ s2 q=>q
theorem aY{i:Nat}{x:Str}{e:Expr}{te:TE}{pos':Pos}(hN:X.N.Nodup)(hi:X.N[i]?=some x)(hx:Loc X.env.scope x)(he:PE X e te)(hs:swapsWith e (some (.Name x pos')) pos.line X.env=pure false:=by rfl)(hf:X.fn x=true\/X.env.scope.names.lookup x=some .local:=by first|exact .inl rfl|exact .inr rfl|assumption) :
  PS X (.Assign [.Name x pos'] e pos) (ye te (uY i)):=by
 intro pins s σ H D I h;refine wpAny_Assign_Name (thn (he pins s σ H _ I h) ?_) hs;rintro v s1 ⟨y,H1,I1,r1,q1⟩;exact Bs I1 hN hi hx r1 (λs2 I2=>⟨_,H1,I2,q1⟩) hf
end
structure It where
 go:Nat->Hp->Prop
 yld:Nat->Hp->V->Hp->Prop
 stop:Nat->Hp->Prop
def wg(X:Cx)(pins:List (Addr×Obj))(H:Hp)(b:Addr):Prop:=
 H b=none/\b≠X.env.locals/\b ∉ X.fs/\(b∈X.ex\/X.s₀.heap.objs.size<=b)/\(∀ x c,X.env.cells.lookup x=some c->c≠b)/\∀ p∈X.pn++pins,p.1≠b
theorem Inv.IW{X:Cx}{pins:List (Addr×Obj)}{σ:St}{H H':Hp}{s:Shared}{b:Addr}(I:Inv X pins σ H s)(hb:s.heap.objs.size<=b)(hn:H' b=none):wg X pins H' b:=by
 refine⟨hn,Nat.ne_of_gt (Zas I.lt hb),I.Ut hb,.inr (ZaC I.sz hb),λx c e z=>?_,λp hp z=>?_⟩
 ·obtain⟨v,q⟩:=I.cell x c e;exact absurd (Zas q.lt (by rw[z];exact hb)) (Zbm _)
 ·exact absurd (Zas (Zam (I.pin p hp).1) (by rw[z];exact hb)) (Zbm _)
structure Turn(P:Program)(w:World)(K:Frag)(tg:Expr)(J:It)(fp:List Addr)(it:Addr)(tn:Nat->Heap->Prop):Prop where
 mem:it∈fp
 obj:∀ i h,tn i h->∀ b∈fp,∃ o,h.get? b=some o/\∀ v,o.data≠.cell v
 keep:∀ i h h',tn i h->(∀ b∈fp,∀ o,h.get? b=some o->h'.get? b=some o)->tn i h'
 item:∀ (X:Cx),X.prog=P->X.w=w->X.K=K->X.calm=true->∀ (i:Nat) (pins:List (Addr×Obj)) (s:Shared) (σ:St) (H:Hp) (E:Value->Shared->Prop),Inv X pins σ H s->(∀ b∈fp,wg X pins H b)->tn i s.heap->J.go i H ->
  wpAny (model P w) X.A (pyNext (.ref it)) (λr s1=>∃ u,r=some u /\
   wpAny (model P w) X.A (letOwnedTupleGo tg (.ref it) u) (λ_ s2=>∃ x H',Inv X pins σ H' s2/\RelV x u/\J.yld i H x H'/\tn (i+1) s2.heap/\∀ b∈fp,H' b=none) E s1) E s
 done:∀ (X:Cx),X.prog=P->X.w=w->X.K=K->X.calm=true->∀ (i:Nat) (pins:List (Addr×Obj)) (s:Shared) (σ:St) (H:Hp) (E:Value->Shared->Prop),Inv X pins σ H s->(∀ b∈fp,wg X pins H b)->tn i s.heap->J.stop i H ->
  wpAny (model P w) X.A (pyNext (.ref it)) (λr s1=>r=none/\Inv X pins σ H s1) E s
 self:∀ (A:Around) (i:Nat) (s:Shared) (Q:Value->Shared->Prop) (E:Value->Shared->Prop),tn i s.heap->Q (.ref it) s->wpAny (model P w) A (pyIter (.ref it)) Q E s
noncomputable abbrev TI:=St->Hp->(It->Hp->Prop)->Prop
def PIE(X:Cx)(pins:List (Addr×Obj))(σ:St)(tg:Expr)(R:It->Hp->Prop)(itv:Value)(s2:Shared):Prop:=
 ∃ (it:Addr) (fp:List Addr) (tn:Nat->Heap->Prop) (J:It) (H':Hp),itv=.ref it/\Inv X pins σ H' s2/\Turn X.prog X.w X.K tg J fp it tn/\tn 0 s2.heap/\(∀ b∈fp,wg X pins H' b)/\R J H'
def PI(X:Cx)(tg iter:Expr)(wi:TI):Prop:=
 ∀ (pins:List (Addr×Obj)) (s:Shared) (σ:St) (H:Hp) (R:It->Hp->Prop),Inv X pins σ H s->wi σ H R ->
  wpAny (model X.prog X.w) X.A (eval iter X.env) (λv s1=>wpAny (model X.prog X.w) X.A (pyIter v) (PIE X pins σ tg R) X.xe s1) X.xe s
theorem Bw{M:Model}{A:Around}{E:Value->Shared->Prop}{s:Shared}{tg:Expr}{it:Addr}{u:Value}{o:Obj}{n:String}{vs:Array Value}{Q:Unit->Shared->Prop}(ho:s.heap.get? it=some o)(hc:o.cls=.type n)(hd:o.data=.fields vs)
  (hn:["enumerate","zip","dict_itemiterator","dict_reverseitemiterator","odict_iterator","itertools.zip_longest","itertools.pairwise"].contains n=false)(hQ:Q () s):wpAny M A (letOwnedTupleGo tg (.ref it) u) Q E s:=by
 unfold letOwnedTupleGo;cases tg<;>first
  |exact Zaw hQ
  |(cases u<;>first
    |exact Zaw hQ
    |(refine Zah (wpAny_load ho ?_)
      rw[hc,hd];show wpAny M A (if(["enumerate","zip","dict_itemiterator","dict_reverseitemiterator","odict_iterator","itertools.zip_longest","itertools.pairwise"].contains n&&vs[0]?==some (rawInt _))=true then _ else _) Q E s
      rw[Zap (by intro h;rw[hn,Bool.false_and] at h;cases h)]
      exact Zaw hQ))
def Itl(K:Frag)(a:Addr):It:=
 ⟨λi H=>∃ xs x,SqL K H a xs/\xs[i]?=some x,λi H x H'=>H'=H/\∀ xs,SqL K H a xs->xs[i]?=some x,λi H=>∃ xs,SqL K H a xs/\xs.length<=i⟩
def Itt(K:Frag)(a:Addr):It:=
 ⟨λi H=>∃ xs x,SqT K H a xs/\xs[i]?=some x,λi H x H'=>H'=H/\∀ xs,SqT K H a xs->xs[i]?=some x,λi H=>∃ xs,SqT K H a xs/\xs.length<=i⟩
def Itr(lo:Int)(n:Nat):It:=⟨λi _=>i<n,λi H x H'=>H'=H/\x=.int (lo+i),λi _=>n<=i⟩
theorem Ja{P:Program}{w:World}{K:Frag}{tg:Expr}(a it:Addr):Turn P w K tg (Itl K a) [it] it (λi h=>h.IsListIter it a i) where
 mem:=by simp
 obj:=λi h st b hb=>by
  have e:b=it:=by simpa using hb
  subst e;obtain⟨o,e,c,d⟩:=st;exact⟨o,e,λv z=>by rw[d] at z;cases z⟩
 keep:=λi h h' st k=>st.at λo e=>k it (by simp) o e
 item:=by
  intro X hP hw hK hc i pins s σ H E I hf st hg;subst hP hw hK;obtain⟨xs,x,hq,hx⟩:=hg;obtain⟨its,rv,p,hz⟩:=I.list hq;obtain⟨u,hu,ru⟩:=rv.get hx;obtain⟨f0,f1,f2,f3,f4,f5⟩:=hf it (by simp)
  refine wpAny_pyNext_list_item st p.isList (x:=u) (by simpa using hu) λh' st' sb=>?_
  have I1:Inv X pins σ H { s with heap:=h' }:=I.turned (t':=s.toks) (λb o hb e=>(sb.2 b hb).trans e) f0 f1 f3 f4 f5;obtain⟨o,e,c,d⟩:=id st';exact⟨u,rfl,Bw (s:={ s with heap:=h' }) e c d (by decide) ⟨x,H,I1,ru,⟨rfl,λys hy=>by rw[I.vZ hy hq];exact hx⟩,st',λb hb=>(hf b hb).1⟩⟩
 done:=by
  intro X hP hw hK hc i pins s σ H E I hf st hg;subst hP hw hK;obtain⟨xs,hq,hx⟩:=hg;obtain⟨its,rv,p,hz⟩:=I.list hq;obtain⟨f0,f1,f2,f3,f4,f5⟩:=hf it (by simp)
  have hl:=rv.length;exact wpAny_pyNext_list_end (I.ok.hd hc) st p.isList (by simp;lia) λh' eb=>⟨rfl,I.turned (t':=s.toks) (λb o hb e=>eb b o hb e) f0 f1 f3 f4 f5⟩
 self:=λ_ _ _ _ _ st h=>wpAny_pyIter_listiter st h
theorem Fb{P:Program}{w:World}{K:Frag}{tg:Expr}(a it:Addr):Turn P w K tg (Itt K a) [it] it (λi h=>h.IsTupleIter it a i) where
 mem:=by simp
 obj:=λi h st b hb=>by
  have e:b=it:=by simpa using hb
  subst e;obtain⟨o,e,c,d⟩:=st;exact⟨o,e,λv z=>by rw[d] at z;cases z⟩
 keep:=λi h h' st k=>st.at λo e=>k it (by simp) o e
 item:=by
  intro X hP hw hK hc i pins s σ H E I hf st hg;subst hP hw hK;obtain⟨xs,x,hq,hx⟩:=hg;obtain⟨its,rv,p,hz⟩:=I.tuple hq;obtain⟨u,hu,ru⟩:=rv.get hx;obtain⟨f0,f1,f2,f3,f4,f5⟩:=hf it (by simp)
  refine wpAny_pyNext_tuple_item st (show s.heap.IsTuple a its.toArray from p) (x:=u) (by simpa using hu) λh' st' sb=>?_
  have I1:Inv X pins σ H { s with heap:=h' }:=I.turned (t':=s.toks) (λb o hb e=>(sb.2 b hb).trans e) f0 f1 f3 f4 f5;obtain⟨o,e,c,d⟩:=id st';exact⟨u,rfl,Bw (s:={ s with heap:=h' }) e c d (by decide) ⟨x,H,I1,ru,⟨rfl,λys hy=>by rw[I.yC hy hq];exact hx⟩,st',λb hb=>(hf b hb).1⟩⟩
 done:=by
  intro X hP hw hK hc i pins s σ H E I hf st hg;subst hP hw hK;obtain⟨xs,hq,hx⟩:=hg;obtain⟨its,rv,p,hz⟩:=I.tuple hq;obtain⟨f0,f1,f2,f3,f4,f5⟩:=hf it (by simp)
  have hl:=rv.length;exact wpAny_pyNext_tuple_end (I.ok.hd hc) st (show s.heap.IsTuple a its.toArray from p) (by simp;omega) λh' eb=>⟨rfl,I.turned (t':=s.toks) (λb o hb e=>eb b o hb e) f0 f1 f3 f4 f5⟩
 self:=λ_ _ _ _ _ st h=>wpAny_pyIter_tupleiter st h
theorem Fd{P:Program}{w:World}{K:Frag}{tg:Expr}(it:Addr)(lo:Int)(n:Nat):Turn P w K tg (Itr lo n) [it] it (λi h=>IsRangeIter h it (lo+(i:Nat)*1) ((n:Int)-(i:Nat)) 1) where
 mem:=by simp
 obj:=λi h st b hb=>by
  have e:b=it:=by simpa using hb
  subst e;exact⟨_,st,λv z=>by
   have z':Data.fields _=Data.cell v:=z;cases z'⟩
 keep:=λi h h' st k=>k it (by simp) _ st
 item:=by
  intro X hP hw hK hc i pins s σ H E I hf st hg;subst hP hw hK;obtain⟨f0,f1,f2,f3,f4,f5⟩:=hf it (by simp)
  have W:=Walks.range (prog:=X.prog) (w:=X.w) (I.ok.hd hc) it lo 1 n;refine W.item i s _ _ hg st λv h' tk hv st' kk=>?_;obtain⟨t,rfl⟩:=hv;have I1:Inv X pins σ H { s with heap:=h',toks:=tk }:=I.turned (λb o hb e=>kk b o (by simpa using hb) e) f0 f1 f3 f4 f5
  refine⟨_,rfl,Bw (s:={ s with heap:=h',toks:=tk }) (n:="range_iterator") st' rfl rfl (by decide) ⟨.int (lo+i),H,I1,⟨t,?_⟩,⟨rfl,rfl⟩,st',λb hb=>(hf b hb).1⟩⟩
  rw[Int.mul_one]
 done:=by
  intro X hP hw hK hc i pins s σ H E I hf st hg;subst hP hw hK;obtain⟨f0,f1,f2,f3,f4,f5⟩:=hf it (by simp)
  exact wpAny_pyNext_range_end (I.ok.hd hc) st (by have:n<=i:=hg;omega) λh' eb=>⟨rfl,I.turned (t':=s.toks) (λb o hb e=>eb b o hb e) f0 f1 f3 f4 f5⟩
 self:=λ_ _ _ _ _ st h=>wpAny_pyIter_rangeiter st h
section
variable{X:Cx}{tg:Expr}
theorem Bx{pins:List (Addr×Obj)}{σ:St}{H:Hp}{s:Shared}{R:It->Hp->Prop}{E:Value->Shared->Prop}{lo hi:Int}{t u v:Tok}{tk:Nat}(I:Inv X pins σ H s)(h1:-(2^62)<=lo)(h2:lo<2^62)(h3:-(2^62)<=hi)(h4:hi<2^62)
  (q:R (Itr lo (hi-lo).toNat) H):wpAny (model X.prog X.w) X.A (pyIter (.ref s.heap.objs.size)) (PIE X pins σ tg R) E { s with heap:=s.heap.push { cls:=.type "range",data:=.fields #[.int lo t,.int hi u,.int 1 v] },toks:=tk }:=by
 refine wpAny_pyIter_range (IsRange.new ..) (small_one h1 h2 h3 h4) ?_;have I1:Inv X pins σ H { s with heap:=s.heap.push { cls:=.type "range",data:=.fields #[.int lo t,.int hi u,.int 1 v] },toks:=tk }:=I.kept λb o e=>Zaf _ e;refine⟨(s.heap.push { cls:=.type "range",data:=.fields #[.int lo t,.int hi u,.int 1 v] }).objs.size,[(s.heap.push { cls:=.type "range",data:=.fields #[.int lo t,.int hi u,.int 1 v] }).objs.size],_,_,H,rfl,
  I1.kept (t':=tk) λb o e=>Zaf _ e,Fd _ lo (hi-lo).toNat,?_,λb hb=>?_,q⟩
 ·have e1:lo+((0:Nat):Int)*1=lo:=by simp
  have e2:(((hi-lo).toNat:Nat):Int)-((0:Nat):Int)=Builtin.Range.rangeSize lo hi 1:=by rw[rangeSize_one];split<;>omega
  show IsRangeIter _ _ (lo+((0:Nat):Int)*1) ((((hi-lo).toNat:Nat):Int)-((0:Nat):Int)) 1
  rw[e1,e2];exact Zau _ rfl
 ·have e:b=(s.heap.push { cls:=.type "range",data:=.fields #[.int lo t,.int hi u,.int 1 v] }).objs.size:=by simpa using hb
  subst e;exact I1.IW (Zag _) (I1.hok.fresh (Zag _))
def Qu(ta:TA):TI:=λσ H R=>ta σ H λvs H1=>∃ j:Int,vs=[.int j]/\-(2^62)<=j/\j<2^62/\R (Itr 0 j.toNat) H1
def Qv(ta:TA):TI:=λσ H R=>ta σ H λvs H1=>∃ i j:Int,vs=[.int i,.int j]/\(-(2^62)<=i/\i<2^62/\-(2^62)<=j/\j<2^62)/\R (Itr i (j-i).toNat) H1
theorem cM{a:Expr}{ta:TA}{p pos:Pos}(hg:Gl X "range")(hm:X.mg "range"=none)(ha:PA X [a] ta)(hs:starEach [a] X.env=[(false,eval a X.env)]:=by rfl):PI X tg (.Call (.Name "range" p) [a] [] pos) (Qu ta):=by
 intro pins s σ H R I h;refine Call_ (ur I hg hm boot_range (Zba (thn (ha pos pins s σ H _ I h) ?_) hs rfl));rintro us s1 ⟨vs,H1,I1,r1,q1⟩;obtain⟨j,e,q1,q2,q⟩:=q1;subst e;cases r1 with
 |cons r rr=>
  cases rr;obtain⟨t,rfl⟩:=r;exact call_range_1 (Bx I1 (by omega) (by omega) q1 q2 (by simpa using q))
theorem ux{a b:Expr}{ta:TA}{p pos:Pos}(hg:Gl X "range")(hm:X.mg "range"=none)(ha:PA X [a,b] ta)(hs:starEach [a,b] X.env=[(false,eval a X.env),(false,eval b X.env)]:=by rfl)(hs2:starEach [b] X.env=[(false,eval b X.env)]:=by rfl) :
  PI X tg (.Call (.Name "range" p) [a,b] [] pos) (Qv ta):=by
 intro pins s σ H R I h;refine Call_ (ur I hg hm boot_range (Zba (thn (ha pos pins s σ H _ I h) ?_) (by rw[hs,hs2]) (by rw[hs2];rfl)))
 rintro us s1 ⟨vs,H1,I1,r1,q1⟩;obtain⟨i,j,e,⟨q1,q2,q3,q4⟩,q⟩:=q1;subst e;cases r1 with
 |cons r rr=>
  cases rr with
  |cons r' rr=>
   cases rr;obtain⟨t,rfl⟩:=r;obtain⟨t',rfl⟩:=r';exact call_range_2 (Bx I1 q1 q2 q3 q4 q)
def S9(wi:TI)(g:TG)(tb:TS):TS:=λD σ H=>wi σ H λJ H1=>∃ W:Nat->Nat->St->Hp->Prop,(∃ m,W 0 m σ H1)/\∀ i m σ H,W i m σ H ->
 (J.stop i H/\D.nx σ H)\/(J.go i H/\∃ N:St->Hp->Prop,(∀ σ' H',N σ' H'->∃ m',m'<m/\W (i+1) m' σ' H')/\∀ x H',J.yld i H x H'->g x σ H' λσ2 H2=>tb { D with nx:=N,ct:=N,bk:=D.nx } σ2 H2)
def wj(fp:List Addr)(h:Heap):List (Addr×Obj):=fp.filterMap λb=>(h.get? b).map λo=>(b,o)
theorem nq{fp:List Addr}{h:Heap}{b:Addr}{o:Obj}(hb:b∈fp)(e:h.get? b=some o):(b,o)∈wj fp h:=List.mem_filterMap.mpr ⟨b,hb,by rw[e];rfl⟩
theorem Jb{fp:List Addr}{h:Heap}{p:Addr×Obj}(hp:p∈wj fp h):p.1∈fp/\h.get? p.1=some p.2:=by
 obtain⟨b,hb,e⟩:=List.mem_filterMap.mp hp;cases q:h.get? b with
 |none=>rw[q] at e;cases e
 |some o=>
  rw[q] at e;have e':(b,o)=p:=Zaa e;subst e';exact⟨hb,q⟩
theorem Inv.pinned{pins:List (Addr×Obj)}{σ:St}{H:Hp}{s:Shared}{fp:List Addr}(I:Inv X pins σ H s)(hf:∀ b∈fp,wg X pins H b)(ho:∀ b∈fp,∃ o,s.heap.get? b=some o/\∀ v,o.data≠.cell v):Inv X (pins++wj fp s.heap) σ H s:=
 I.GZ λp hp=>(ZaU.mp hp).elim (λz=>I.pin p (ZaH _ z)) λz=>by
  obtain⟨hb,e⟩:=Jb z;obtain⟨f0,f1,f2,_⟩:=hf p.1 hb;obtain⟨o,e',d⟩:=ho p.1 hb;rw[e] at e';cases e';exact⟨e,f0,f1,f2,d⟩
theorem Inv.sY{pins pl:List (Addr×Obj)}{σ:St}{H:Hp}{s:Shared}(I:Inv X (pins++pl) σ H s):Inv X pins σ H s:=I.GZ λp hp=>I.pin p (ZaH _ (List.mem_append_left _ hp))
theorem dw{iter:Expr}{body:List Stmt}{wi:TI}{g:TG}{tb:TS}{pos:Pos}(hp:PassesOwn (model X.prog X.w) X.A X.env X.xe)(hc:X.calm=true)(hi:PI X tg iter wi)(hg:PG X tg g)(hb:PSs X body tb)
  (hs:∀ x,foldedSetIterable iter X.env x=pure x:=by intro _;rfl):PS X (.For tg iter body [] pos) (S9 wi g tb):=by
 intro pins s σ H D I h;refine wpAny_For (thn (hi pins s σ H _ I h) λv s1 h1=>thn h1 λitv s2 h2=>?_) hs;obtain⟨it,fp,tn,J,H2,e,I2,T,st2,f2,W,⟨m0,w0⟩,turn⟩:=h2;subst e;have stat:∀ {H':Hp},(∀ b∈fp,H' b=none)->∀ b∈fp,wg X pins H' b:=λhn b hb=>⟨hn b hb,(f2 b hb).2⟩;refine codeAny_forLoop_any (λn s'=>∃ i σ' H',Inv X pins σ' H' s'/\tn i s'.heap/\(∀ b∈fp,H' b=none)/\W i n σ' H') ?_ m0 ⟨0,σ,H2,I2,st2,λb hb=>(f2 b hb).1,w0⟩;rintro n s3 ⟨i,σ3,H3,I3,st3,fr3,w3⟩;rcases turn i n σ3 H3 w3 with⟨stop,qn⟩|⟨go,N,hN,step⟩
 ·refine wpAny_passesOwn hp (thn (T.done X rfl rfl rfl hc i pins s3 σ3 H3 X.xe I3 (stat fr3) st3 stop) ?_);rintro r s4 ⟨hr,I4⟩;subst hr;exact wpAny_execs_nil ⟨σ3,H3,I4,qn⟩
 ·refine wpAny_passesOwn hp (thn (T.item X rfl rfl rfl hc i pins s3 σ3 H3 X.xe I3 (stat fr3) st3 go) ?_);rintro r s4 ⟨u,hr,h4⟩;subst hr;refine wpAny_passesOwn hp (thn h4 ?_);rintro _ s5 ⟨x,H5,I5,r5,y5,st5,fr5⟩;have I5':=I5.pinned (stat fr5) (T.obj _ _ st5);refine wpAny_passesOwn hp (thn (hg _ s5 σ3 H5 x u _ I5' r5 (step x H5 y5)) ?_);rintro _ s6 ⟨σ6,H6,I6,q6⟩;refine wpAny_passesOwn hp (thn (hb _ s6 σ6 H6 _ I6 q6) λf s7 q7=>?_);have again:∀ {σ7:St}{H7:Hp},Inv X (pins++wj fp s5.heap) σ7 H7 s7->N σ7 H7->∃ m,m<n/\∃ i σ' H',Inv X pins σ' H' s7/\tn i s7.heap/\(∀ b∈fp,H' b=none)/\W i m σ' H':=λ{σ7 H7} I7 n7=>by
   obtain⟨m',hm,w7⟩:=hN σ7 H7 n7;refine⟨m',hm,i+1,σ7,H7,I7.sY,T.keep _ _ _ st5 λb hb o e=>(I7.pin (b,o) (ZaH _ (ZaH _ (nq hb e)))).1,λb hb=>?_,w7⟩;obtain⟨o,e,d⟩:=T.obj _ _ st5 b hb;exact(I7.pin (b,o) (ZaH _ (ZaH _ (nq hb e)))).2.1
  cases f with
  |next=>obtain⟨σ7,H7,I7,n7⟩:=q7;exact again I7 n7
  |cont=>obtain⟨σ7,H7,I7,n7⟩:=q7;exact again I7 n7
  |brk=>obtain⟨σ7,H7,I7,q7⟩:=q7;exact⟨σ7,H7,I7.sY,q7⟩
  |ret v=>obtain⟨x7,σ7,H7,I7,r7,q7⟩:=q7;exact⟨x7,σ7,H7,I7.sY,r7,q7⟩
end
noncomputable abbrev R2:=V->V->Hp->VK->Prop
def OpR(X:Cx)(f:Value->Value->Sem Value)(r:R2):Prop:=
 ∀ (pins:List (Addr×Obj)) (s:Shared) (σ:St) (H:Hp) (x y:V) (v u:Value) (Q:VK),Inv X pins σ H s->RelV x v->RelV y u->r x y H Q ->
  wpAny (model X.prog X.w) X.A (f v u) (EP X pins σ Q) X.xe s
def UnR(X:Cx)(f:Value->Sem Value)(r:V->Hp->VK->Prop):Prop:=
 ∀ (pins:List (Addr×Obj)) (s:Shared) (σ:St) (H:Hp) (x:V) (v:Value) (Q:VK),Inv X pins σ H s->RelV x v->r x H Q ->
  wpAny (model X.prog X.w) X.A (f v) (EP X pins σ Q) X.xe s
def qQ(X:Cx)(f:Value)(r:List V->Hp->VK->Prop):Prop:=
 ∀ (pins:List (Addr×Obj)) (s:Shared) (σ:St) (H:Hp) (xs:List V) (us:List Value) (Q:VK),Inv X pins σ H s->Vals xs us->r xs H Q ->
  wpAny (model X.prog X.w) X.A (call f us) (EP X pins σ Q) X.xe s
def tOp(r:R2)(ta tb:TE):TE:=λσ H Q=>ta σ H λx H1=>tb σ H1 λy H2=>r x y H2 Q
def tUn(r:V->Hp->VK->Prop)(ta:TE):TE:=λσ H Q=>ta σ H λx H1=>r x H1 Q
def rI(C:Int->Int->Prop)(g:Int->Int->V):R2:=λx y H Q=>∃ i j,x=.int i/\y=.int j/\C i j/\Q (g i j) H
def rI0(g:Int->Int->V):R2:=λx y H Q=>∃ i j,x=.int i/\y=.int j/\Q (g i j) H
def rU(g:Int->V):V->Hp->VK->Prop:=λx H Q=>∃ i,x=.int i/\Q (g i) H
section
variable{X:Cx}{a b:Expr}{ta tb:TE}{pos:Pos}
theorem Rf(ha:PE X a ta)(hb:PE X b tb){pins:List (Addr×Obj)}{s:Shared}{σ:St}{H:Hp}{R:V->V->Hp->Prop}(I:Inv X pins σ H s)
  (h:ta σ H λx H1=>tb σ H1 λy H2=>R x y H2){Q:Value->Shared->Prop}{f:Value->Value->Sem Value}
  (hf:∀ v u s2 x y H2,Inv X pins σ H2 s2->RelV x v->RelV y u->R x y H2->wpAny (model X.prog X.w) X.A (f v u) Q X.xe s2) :
  wpAny (model X.prog X.w) X.A (eval a X.env) (λv s₁=>wpAny (model X.prog X.w) X.A (eval b X.env) (λu s₂=>wpAny (model X.prog X.w) X.A (f v u) Q X.xe s₂) X.xe s₁) X.xe s:=by
 refine thn (ha pins s σ H _ I h) ?_;rintro v s1 ⟨x,H1,I1,r1,q1⟩;refine thn (hb pins s1 σ H1 _ I1 q1) ?_;rintro u s2 ⟨y,H2,I2,r2,q2⟩;exact hf v u s2 x y H2 I2 r1 r2 q2
theorem aR{op:Operator}{r:R2}(ho:OpR X (binaryOp op) r)(ha:PE X a ta)(hb:PE X b tb):PE X (.BinOp a op b pos) (tOp r ta tb):=by
 intro pins s σ H Q I h;exact wpAny_BinOp (Rf ha hb I h λv u s2 x y H2 I2 rx ry q=>ho pins s2 σ H2 x y v u Q I2 rx ry q)
theorem Hb{op:UnaryOp}{r:V->Hp->VK->Prop}(ho:UnR X (unaryOp op) r)(ha:PE X a ta):PE X (.UnaryOp op a pos) (tUn r ta):=by
 intro pins s σ H Q I h;exact UnaryOp_ (thn (ha pins s σ H _ I h) λv s1 ⟨x,H1,I1,r1,q1⟩=>ho pins s1 σ H1 x v Q I1 r1 q1)
theorem opI{f:Value->Value->Sem Value}{C:Int->Int->Prop}{g:Int->Int->Int}
  (rule:∀ (i j:Int) (t u:Tok) (s:Shared) (Q:Value->Shared->Prop) (E:Value->Shared->Prop),C i j->Q (.int (g i j) s.toks) { s with toks:=s.toks+1 }->wpAny (model X.prog X.w) X.A (f (.int i t) (.int j u)) Q E s) :
  OpR X f (rI C λi j=>.int (g i j)):=by
 intro pins s σ H x y v u Q I rx ry h;obtain⟨i,j,rfl,rfl,hc,q⟩:=h;obtain⟨t,rfl⟩:=rx;obtain⟨t',rfl⟩:=ry;exact rule i j t t' s _ _ hc ⟨.int (g i j),H,I.tok _,⟨_,rfl⟩,q⟩
theorem Nz{f:Value->Value->Sem Value}{g:Int->Int->Int}
  (rule:∀ (i j:Int) (t u:Tok) (s:Shared) (Q:Value->Shared->Prop) (E:Value->Shared->Prop),Q (.int (g i j) s.toks) { s with toks:=s.toks+1 }->wpAny (model X.prog X.w) X.A (f (.int i t) (.int j u)) Q E s) :
  OpR X f (rI0 λi j=>.int (g i j)):=by
 intro pins s σ H x y v u Q I rx ry h;obtain⟨i,j,rfl,rfl,q⟩:=h;obtain⟨t,rfl⟩:=rx;obtain⟨t',rfl⟩:=ry;exact rule i j t t' s _ _ ⟨.int (g i j),H,I.tok _,⟨_,rfl⟩,q⟩
theorem NB{f:Value->Value->Sem Value}{g:Int->Int->Bool}
  (rule:∀ (i j:Int) (t u:Tok) (s:Shared) (Q:Value->Shared->Prop) (E:Value->Shared->Prop),Q (.bool (g i j)) s->wpAny (model X.prog X.w) X.A (f (.int i t) (.int j u)) Q E s) :
  OpR X f (rI0 λi j=>.bl (g i j)):=by
 intro pins s σ H x y v u Q I rx ry h;obtain⟨i,j,rfl,rfl,q⟩:=h;obtain⟨t,rfl⟩:=rx;obtain⟨t',rfl⟩:=ry;exact rule i j t t' s _ _ ⟨.bl (g i j),H,I,rfl,q⟩
def Rg(i j:Int):Prop:=0<j/\j<1073741824
def Kl(i j:Int):Prop:=0<=j/\j<=1000000/\i.natAbs<2^64
def Fe(i j:Int):Prop:=(-(2^64)<i/\i<2^64)\/(-(2^64)<j/\j<2^64)
theorem Fe.ok{i j:Int}(h:Fe i j):IntMulOk i j:=by
 rcases h with⟨h1,h2⟩|⟨h1,h2⟩
 ·exact .of_left (intBits_le_64 h1 h2)
 ·exact .of_right (intBits_le_64 h1 h2)
theorem Ff(k:Nat):(0:Int)<=2^k:=by
 rw[two_pow_cast];exact Zbe _
theorem Rh:OpR X (binaryOp .Add) (rI0 λi j=>.int (i+j)):=Nz λ_ _ _ _ _ _ _ q=>add_int q
theorem rR:OpR X (binaryOp .Sub) (rI0 λi j=>.int (i-j)):=Nz λ_ _ _ _ _ _ _ q=>sub_int q
theorem Ri:OpR X (binaryOp .Mult) (rI Fe λi j=>.int (i*j)):=opI λ_ _ _ _ _ _ _ hc q=>mul_int q hc.ok
theorem sZ:OpR X (binaryOp .FloorDiv) (rI Rg λi j=>.int (i/j)):=opI λi j _ _ _ _ _ hc q=>by
 have h1:(0:Int)<j:=hc.1;have h2:j<1073741824:=hc.2;exact floordiv_int (by omega) (by rw[Int.fdiv_eq_ediv_of_nonneg i (by omega)];exact q) (.inl (PyProof.noPylong_small (by omega)))
theorem bO:OpR X (binaryOp .Mod) (rI (λ_ j=>0<j) λi j=>.int (i%j)):=opI λi j _ _ _ _ _ hc q=>by
 have h1:(0:Int)<j:=hc;exact mod_int' (by omega) (by rw[Int.fmod_eq_emod_of_nonneg i (by omega)];exact q)
theorem uy:OpR X (binaryOp .Pow) (rI Kl λi j=>.int (i^j.toNat)):=opI λ_ _ _ _ _ _ _ hc q=>pow_int_small hc.1 hc.2.1 hc.2.2 q
theorem wu:OpR X (binaryOp .LShift) (rI Kl λi j=>.int (i*2^j.toNat)):=opI λ_ _ _ _ _ _ _ hc q=>lshift_int_small hc.1 hc.2.1 hc.2.2 q
theorem Km:OpR X (binaryOp .RShift) (rI (λ_ j=>0<=j) λi j=>.int (i/2^j.toNat)):=opI λi j _ _ _ _ _ hc q=>
 rshift_int hc (by rw[Int.fdiv_eq_ediv_of_nonneg i (Ff _)];exact q)
theorem zr:OpR X (binaryOp .BitAnd) (rI0 λi j=>.int (Builtin.bitAnd i j)):=Nz λ_ _ _ _ _ _ _ q=>and_int q
theorem Tc:OpR X (binaryOp .BitOr) (rI0 λi j=>.int (Builtin.bitOr i j)):=Nz λ_ _ _ _ _ _ _ q=>or_int q
theorem unI{f:Value->Sem Value}{g:Int->Int}
  (rule:∀ (i:Int) (t:Tok) (s:Shared) (Q:Value->Shared->Prop) (E:Value->Shared->Prop),Q (.int (g i) s.toks) { s with toks:=s.toks+1 }->wpAny (model X.prog X.w) X.A (f (.int i t)) Q E s) :
  UnR X f (rU λi=>.int (g i)):=by
 intro pins s σ H x v Q I rx h;obtain⟨i,rfl,q⟩:=h;obtain⟨t,rfl⟩:=rx;exact rule i t s _ _ ⟨.int (g i),H,I.tok _,⟨_,rfl⟩,q⟩
theorem Fg:UnR X (unaryOp .USub) (rU λi=>.int (-i)):=unI λ_ _ _ _ _ q=>neg_int q
theorem Rj:UnR X (unaryOp .Invert) (rU λi=>.int (Builtin.bitNot i)):=unI λ_ _ _ _ _ q=>invert_int q
end
section
variable{X:Cx}{a b c:Expr}{ta tb tc:TE}{pos:Pos}
theorem wy{pins:List (Addr×Obj)}{σ:St}{H:Hp}{s:Shared}{Q:VK}{k k':Bool}(I:Inv X pins σ H s)(q:Q (.bl k) H)(e:k=k'):EP X pins σ Q (.bool k') s:=by
 subst e;exact⟨.bl k,H,I,rfl,q⟩
theorem Td:OpR X (compareOp .Lt) (rI0 λi j=>.bl (decide (i<j))):=NB λ_ _ _ _ _ _ _ q=>lt_int q
theorem Te:OpR X (compareOp .LtE) (rI0 λi j=>.bl (decide (i<=j))):=NB λ_ _ _ _ _ _ _ q=>le_int q
theorem Tf:OpR X (compareOp .Gt) (rI0 λi j=>.bl (decide (j<i))):=NB λ_ _ _ _ _ _ _ q=>gt_int q
theorem Ko:OpR X (compareOp .GtE) (rI0 λi j=>.bl (decide (j<=i))):=NB λ_ _ _ _ _ _ _ q=>ge_int q
theorem Jc:OpR X (compareOp .Lt) (λx y H Q=>∃ i j,x=.str i/\y=.str j/\Q (.bl (decide (i.cps.toList<j.cps.toList))) H):=by
 intro pins s σ H x y v u Q I rx ry h;obtain⟨i,j,rfl,rfl,q⟩:=h;obtain⟨t,rfl⟩:=rx;obtain⟨t',rfl⟩:=ry;exact lt_str (wy I q rfl)
theorem Rm:OpR X (compareOp .Is) (λx y H Q=>y=.non/\Q (.bl (decide (x=.non))) H):=by
 intro pins s σ H x y v u Q I rx ry h;obtain⟨rfl,q⟩:=h;cases ry;refine is_none_gen (wy I q ?_);cases x<;>first
  |(cases rx;rfl)
  |(obtain⟨t,rfl⟩:=rx;rfl)
theorem zu:OpR X (compareOp .IsNot) (λx y H Q=>y=.non/\Q (.bl (!decide (x=.non))) H):=by
 intro pins s σ H x y v u Q I rx ry h;obtain⟨rfl,q⟩:=h;cases ry;refine isnot_none_gen (wy I q ?_);cases x<;>first
  |(cases rx;rfl)
  |(obtain⟨t,rfl⟩:=rx;rfl)
theorem zx:OpR X (compareOp .NotIn) (λx y H Q=>∃ i j,x=.str i/\y=.str j/\Q (.bl (!(!(Builtin.Str.occurrences j i 0 j.length 1).isEmpty))) H):=by
 intro pins s σ H x y v u Q I rx ry h;obtain⟨i,j,rfl,rfl,q⟩:=h;obtain⟨t,rfl⟩:=rx;obtain⟨t',rfl⟩:=ry;exact notIn_str (wy I q rfl)
theorem OpR.or{f:Value->Value->Sem Value}{r r':R2}(h:OpR X f r)(h':OpR X f r'):OpR X f (λx y H Q=>r x y H Q\/r' x y H Q):=by
 intro pins s σ H x y v u Q I rx ry q;rcases q with q|q
 ·exact h pins s σ H x y v u Q I rx ry q
 ·exact h' pins s σ H x y v u Q I rx ry q
theorem bN(b:Expr){op:CmpOp}(h:op≠.In:=by decide)(h2:op≠.NotIn:=by decide):behindInMarks op b=false:=by
 have e1:(op==CmpOp.In)=false:=by cases op<;>first|rfl|exact absurd rfl h
 have e2:(op==CmpOp.NotIn)=false:=by cases op<;>first|rfl|exact absurd rfl h2
 cases b<;>simp[behindInMarks,e1,e2]
theorem kj{op:CmpOp}{r:R2}(ho:OpR X (compareOp op) r)(ha:PE X a ta)(hb:PE X b tb)(hm:behindInMarks op b=false):PE X (.Compare a [op] [b] pos) (tOp r ta tb):=by
 intro pins s σ H Q I h;exact wpAny_Compare1 (Rf ha hb I h λv u s2 x y H2 I2 rx ry q=>ho pins s2 σ H2 x y v u Q I2 rx ry q) hm
def Qw(t:TE):TT:=λσ H Q=>t σ H λx H'=>∃ k,x=.bl k/\Q k H'
theorem bG{op:CmpOp}{r:R2}(ho:OpR X (compareOp op) r)(ha:PE X a ta)(hb:PE X b tb)(hm:behindInMarks op b=false):PT X (.Compare a [op] [b] pos) (Qw (tOp r ta tb)):=by
 intro pins s σ H Q I h;refine wpAny_isTrue_Compare1 (thn (ha pins s σ H _ I h) λv s1 ⟨x,H1,I1,r1,q1⟩=>thn (hb pins s1 σ H1 _ I1 q1) λu s2 ⟨y,H2,I2,r2,q2⟩=>
  thn (ho pins s2 σ H2 x y v u _ I2 r1 r2 q2) λc s3 ⟨z,H3,I3,r3,k,e,q3⟩=>?_) hm
 subst e;cases r3;exact wpAny_truthy_bool ⟨H3,I3,q3⟩
def Kp(r r':R2)(ta tb tc:TE):TE:=λσ H Q=>ta σ H λx H1=>tb σ H1 λy H2=>r x y H2 λz H3=>∃ k,z=.bl k /\
 (if k=true then tc σ H3 λw' H4=>r' y w' H4 Q else Q (.bl false) H3)
theorem Kq{op op':CmpOp}{r r':R2}(ho:OpR X (compareOp op) r)(ho':OpR X (compareOp op') r')(ha:PE X a ta)(hb:PE X b tb)(hc:PE X c tc)
  (hm:lastMarks [op,op'] [b,c]=false:=by with_unfolding_all rfl):PE X (.Compare a [op,op'] [b,c] pos) (Kp r r' ta tb tc):=by
 intro pins s σ H Q I h;refine Compare_chain (thn (ha pins s σ H _ I h) λv s1 ⟨x,H1,I1,r1,q1⟩=>chain_link (thn (hb pins s1 σ H1 _ I1 q1) λu s2 ⟨y,H2,I2,r2,q2⟩=>
  thn (ho pins s2 σ H2 x y v u _ I2 r1 r2 q2) λd s3 ⟨z,H3,I3,r3,k,e,q3⟩=>?_)) hm
 subst e;cases r3;refine wpAny_truthy_bool ?_;cases k with
 |false=>exact ite_ff ⟨.bl false,H3,I3,rfl,q3⟩
 |true=>exact ite_tt (chain_last (thn (hc pins s3 σ H3 _ I3 q3) λw' s4 ⟨z',H4,I4,r4,q4⟩=>ho' pins s4 σ H4 y z' u w' Q I4 r2 r4 q4))
theorem wz:(sizeLine:Nat)<2^63:=by rw[sizeLine_eq];decide
theorem Fi:OpR X (binaryOp .Add) (λx y H Q=>∃ i j,x=.str i/\y=.str j/\i.length+j.length<=sizeLine/\Q (.str (i++j)) H):=by
 intro pins s σ H x y v u Q I rx ry h;obtain⟨i,j,rfl,rfl,hz,q⟩:=h;obtain⟨t,rfl⟩:=rx;obtain⟨t',rfl⟩:=ry;exact add_str (λt' tk=>⟨.str (i++j),H,I.tok _,⟨_,rfl⟩,q⟩) hz
theorem vals1{x:V}{us:List Value}(r:Vals [x] us):∃ u,us=[u]/\RelV x u:=by
 cases r with
 |cons r1 r2=>cases r2;exact⟨_,rfl,r1⟩
def Tg(K:Frag)(x:V)(H:Hp)(n:Nat):Prop:=
 match x with
 |.str y=>y.length<=sizeLine/\n=y.length
 |.byt y=>y.size<=sizeLine/\n=y.size
 |.ref p=>(∃ xs,SqL K H p xs/\n=xs.length)\/∃ xs,SqT K H p xs/\n=xs.length
 |_=>False
theorem cY:qQ X (.builtin "len") (λxs H Q=>∃ x n,xs=[x]/\Tg X.K x H n/\Q (.int n) H):=by
 intro pins s σ H xs us Q I r h;obtain⟨x,n,rfl,e,q⟩:=h;obtain⟨u,rfl,rx⟩:=vals1 r;have hl:=wz;have hs:sizeLine=16777216:=sizeLine_eq;cases x with
 |str y=>
  obtain⟨t,rfl⟩:=rx;obtain⟨hy,e'⟩:y.length<=sizeLine/\n=y.length:=e;subst e';exact len_str (by lia) ⟨.int _,H,I.tok _,⟨_,rfl⟩,q⟩
 |byt y=>
  obtain⟨t,rfl⟩:=rx;obtain⟨hy,e'⟩:y.size<=sizeLine/\n=y.size:=e;subst e';exact PySem.W.len_bytes (by lia) ⟨.int _,H,I.tok _,⟨_,rfl⟩,q⟩
 |ref p=>
  cases rx;have e':(∃ xs,SqL X.K H p xs/\n=xs.length)\/∃ xs,SqT X.K H p xs/\n=xs.length:=e;rcases e' with⟨xs,hx,e'⟩|⟨xs,hx,e'⟩
  ·subst e';obtain⟨its,r',pl,hz⟩:=I.list hx;have hlen:=r'.length;exact Calls.call_len_list pl.isList (by simp only[List.size_toArray];lia) ⟨.int xs.length,H,I.tok _,⟨_,by simp only[List.size_toArray];rw[hlen]⟩,q⟩
  ·subst e';obtain⟨its,r',pl,hz⟩:=I.tuple hx;have hlen:=r'.length;exact len_tuple pl (by simp only[List.size_toArray];lia) ⟨.int xs.length,H,I.tok _,⟨_,by simp only[List.size_toArray];rw[hlen]⟩,q⟩
 |_=>exact(show False from e).elim
end
theorem vz.some_of{v:V}{o:Option Value}(r:vz (some v) o):∃ u,o=some u/\RelV v u:=by
 cases o with
 |none=>exact(show False from r).elim
 |some u=>exact⟨u,rfl,r⟩
structure fX(k:Nat)(A:Around):Prop where
 hd:A.handled=none
 dp:A.depth+3*k+5<recursionLimit
 un:A.units+16*k+200<cLine
theorem fX.mono{j k:Nat}{A:Around}(r:fX k A)(h:j<=k):fX j A:=⟨r.hd,by have:=r.dp;lia,by have:=r.un;lia⟩
theorem fX.deeper{k:Nat}{A:Around}(r:fX (k+1) A)(env:Env):fX k (A.deeper env):=
 ⟨r.hd,by have:=r.dp;show A.depth+1+3*k+5<_;lia,by have:=r.un;show A.units+3+16*k+200<_;lia⟩
theorem fX.depth{k:Nat}{A:Around}(r:fX k A):A.depth<recursionLimit:=by have:=r.dp;omega
theorem fX.units{k:Nat}{A:Around}(r:fX k A):A.units+64<cLine:=by have:=r.un;omega
def By:TA:=λ_ H Q=>Q [] H
def qR(ta:TE)(tr:TA):TA:=λσ H Q=>ta σ H λx H1=>tr σ H1 λxs H2=>Q (x::xs) H2
section
variable{X:Cx}{e:Expr}{es:List Expr}{te:TE}{t:TA}{pos:Pos}
theorem aG:PA X [] By:=λ_ _ _ _ H Q I h=>Calls.spliced_nil ⟨[],H,I,.nil,h⟩
theorem ao(ha:PE X e te)(hr:PA X es t)(hs:starEach (e::es) X.env=(false,eval e X.env)::starEach es X.env:=by rfl):PA X (e::es) (qR te t):=by
 intro pos pins s σ H Q I h;rw[hs];show wpAny _ _ (spliced ((false,eval e X.env)::backTo pos (starEach es X.env))) _ _ s
 refine Calls.spliced_cons (thn (ha pins s σ H _ I h) ?_);rintro u s1 ⟨x,H1,I1,r1,q1⟩;exact thn (hr pos pins s1 σ H1 _ I1 q1) λus s2 ⟨xs,H2,I2,r2,q2⟩=>⟨x::xs,H2,I2,.cons r1 r2,q2⟩
def Th(t:TA):TE:=λσ H Q=>t σ H λxs H1=>xs.length<=sizeLine/\∀ p,H1 p=none->Q (.ref p) (upd H1 p (.tup xs))
def Ti(t:TA):TE:=λσ H Q=>t σ H λxs H1=>xs.length<=sizeLine/\∀ p,H1 p=none->Q (.ref p) (upd H1 p (.lst xs))
theorem fB{x1}(h:PA X es t):PE X (.Tuple es x1 pos) (Th t):=by
 intro pins s σ H Q I hq;refine wpAny_Tuple_spliced (thn (h pos pins s σ H _ I hq) λus s1 ⟨xs,H1,I1,r,z,q⟩=>⟨by rw[<-r.length];exact z,?_⟩)
 have hf:H1 s1.heap.objs.size=none:=I1.hok.fresh (Zag _);refine⟨.ref s1.heap.objs.size,upd H1 s1.heap.objs.size (.tup xs),I1.laid (t':=s1.toks) (λb u e=>Zaf _ e) (Zag _) ?_,rfl,q _ hf⟩;exact⟨z,us,r,gC.mk (Zau _ rfl)⟩
theorem gM(h:PA X es t):PE X (.List es pos) (Ti t):=by
 intro pins s σ H Q I hq;refine wpAny_List_spliced (thn (h pos pins s σ H _ I hq) λus s1 ⟨xs,H1,I1,r,z,q⟩=>⟨by rw[<-r.length];exact z,?_⟩)
 have hf:H1 s1.heap.objs.size=none:=I1.hok.fresh (Zag _);refine⟨.ref s1.heap.objs.size,upd H1 s1.heap.objs.size (.lst xs),I1.laid (t':=s1.toks) (λb u e=>Zaf _ e) (Zag _) ?_,rfl,q _ hf⟩;exact⟨z,us,0,r,Zau _ rfl⟩
end
noncomputable abbrev Sp:=List V->Hp->VK->XK->Prop
noncomputable abbrev CXT:=List Env->Hp->Shared->XK->Value->Shared->Prop
structure NK(P:Program)(w:World)(K:Frag)(mg:Str->Option Value)(base:Heap)(A:Around)(outer:List Env)(s:Shared)(H:Hp):Prop where
 frames:A.frames=some outer
 mod:Mod K mg base
 bs:∀ b o,base.get? b=some o->s.heap.get? b=some o/\H b=none
 bsz:base.objs.size<=s.heap.objs.size
 vA:s.heap.FunFrames base outer
 frf:∀ b∈frs outer,H b=none
 hok:HOk P w H s.heap
 bare:AllBare s.gens
def CE(outer:List Env)(P:Program)(w:World)(H:Hp)(s:Shared)(Q:VK)(u:Value)(s':Shared):Prop:=
 ∃ v H',s'.os=s.os/\AllBare s'.gens/\Un (frs outer) [] H H' s.heap s'.heap/\HOk P w H' s'.heap/\RelV v u/\Q v H'
def CR(CX:CXT)(outer:List Env)(P:Program)(w:World)(H:Hp)(s:Shared)(Q:VK)(E:XK)(r:Result)(s':Shared):Prop:=
 match r with
 |.ok (.ret u)=>CE outer P w H s Q u s'
 |.ok _=>False
 |.error e=>CX outer H s E e s'
structure yf(P:Program)(w:World)(K:Frag)(mg:Str->Option Value)(base:Heap)(CX:CXT)(k:Nat)(f:Addr)(fd:FuncData)(ps:List Str)(sp:Sp):Prop where
 len:∀ vs H Q E,sp vs H Q E->vs.length=ps.length
 run:∀ (A:Around) (outer:List Env) (s:Shared) (H:Hp) (args:Args) (us:List Value) (vs:List V) (Q:VK) (E:XK),fX k A->NK P w K mg base A outer s H->BindsTo s fd args (ps.zip us)->Vals vs us->sp vs H Q E ->
  codeAny (model P w) A (.call (.ref f) args) (CR CX outer P w H s Q E) s
section
variable{X:Cx}{pins:List (Addr×Obj)}{σ:St}{H:Hp}{s s':Shared}
theorem Inv.env0(I:Inv X pins σ H s):NK X.prog X.w X.K X.mg X.base X.A X.stack s H:=
 ⟨I.ok.frames,I.ok.mod,I.bs,ZaC I.ok.bsz I.sz,I.stack,I.GX,I.hok,I.bare⟩
theorem Inv.after{Q:VK}{u:Value}(I:Inv X pins σ H s)(h:CE X.stack X.prog X.w H s Q u s'):EP X pins σ Q u s':=by
 obtain⟨v,H',os,bare,un,hok,r,q⟩:=h;obtain⟨hh,g,d,t,os'⟩:=s';obtain rfl:os'=s.os:=os;exact⟨v,H',I.call (h':=hh) (g':=g) (d':=d) (t':=t) (ch:=[]) un hok bare (λb z=>absurd z (by simp)),r,q⟩
end
def wA(sp:Sp)(dvs:List V)(E:XK)(t:TA):TE:=λσ H Q=>t σ H λvs H1=>sp (vs++dvs) H1 Q E
def Binds(K:Frag)(fd:FuncData)(ps:List Str)(ds:List Value):Prop:=
 ∀ (s:Shared) (us:List Value),K.In s.heap->(us++ds).length=ps.length->BindsTo s fd ⟨us,[]⟩ (ps.zip (us++ds))
theorem Binds.all{K:Frag}{fd:FuncData}{ps:List Str}(h:∀ us:List Value,us.length=ps.length->bindArgs fd ⟨us,[]⟩=pure (ps.zip us)):Binds K fd ps []:=λs us _ hl=>by
 rw[ZaM] at hl ⊢;exact .of_eq (h us hl)
def Fj(CX:CXT)(X:Cx)(E:XK):Prop:=∀ (pins:List (Addr×Obj)) (σ:St) (H:Hp) (s:Shared) (e:Value) (s':Shared),Inv X pins σ H s->CX X.stack H s E e s'->X.xe e s'
section
variable{X:Cx}{CX:CXT}{k:Nat}{f:Addr}{fd:FuncData}{ps:List Str}{sp:Sp}{dvs:List V}{ds:List Value}{E:XK}{x:Str}{p pos:Pos}{e:Expr}{es:List Expr}{t:TA}
theorem Ro{pins:List (Addr×Obj)}{σ:St}{H:Hp}{s:Shared}{Q:VK}{us:List Value}{vs:List V}(F:yf X.prog X.w X.K X.mg X.base CX k f fd ps sp)(hr:fX k X.A)(hb:Binds X.K fd ps ds)(hd:Vals dvs ds)(hx:Fj CX X E)
  (I:Inv X pins σ H s)(r:Vals vs us)(h:sp (vs++dvs) H Q E):wpAny (model X.prog X.w) X.A (call (.ref f) us) (EP X pins σ Q) X.xe s:=by
 have r2:Vals (vs++dvs) (us++ds):=r.append hd;have hl:(us++ds).length=ps.length:=by rw[<-r2.length];exact F.len _ _ _ _ h
 refine wpAny_call (codeAny_mono (F.run X.A X.stack s H ⟨us,[]⟩ (us++ds) (vs++dvs) Q E hr I.env0 (hb s us I.kIn hl) r2 h) λr s' hq=>?_);cases r with
 |error e=>exact hx pins σ H s e s' I hq
 |ok fl=>
  cases fl with
  |ret u=>exact I.after hq
  |next=>exact False.elim hq
  |brk=>exact False.elim hq
  |cont=>exact False.elim hq
theorem NP(F:yf X.prog X.w X.K X.mg X.base CX k f fd ps sp)(hr:fX k X.A)(hg:Gl X x)(hm:X.mg x=some (.ref f))(hk:keepIn X.K (.ref f)=true)(hb:Binds X.K fd ps ds)(hd:Vals dvs ds)(hx:Fj CX X E)
  (ha:PA X (e::es) t)(hdb:(x==("__debug__":Str))=false:=by decide)(he:starEach (e::es) X.env=(false,eval e X.env)::starEach es X.env:=by rfl)(hpl:(backTo pos (starEach es X.env)).any (·.1)=false:=by rfl) :
  PE X (.Call (.Name x p) (e::es) [] pos) (wA sp dvs E t):=by
 intro pins s σ H Q I h;refine wpAny_Call_Name_kw (Ha I hg hm ?_ hdb);refine PySem.W.callWith_K (h₀:=X.base) I.ok.mod.kin hk (thn (ha pos pins s σ H _ I h) λus s1 ⟨vs,H1,I1,r,q⟩=>⟨I1.kIn,?_⟩) he hpl;exact Ro F hr hb hd hx I1 r q
end
structure bB(N P:List Str)(sc:Scope):Prop where
 kind:sc.kind=.function
 co:sc.isCoroutine=false
 gen:sc.isGenerator=false
 nd:N.Nodup
 pre:N.take P.length=P
 par:∀ x∈P,sc.names.lookup x=some .local\/sc.names.lookup x=some .cell
 nofree:∀ y∈sc.names,y.2≠.free
theorem yD{kindOf:Str->Option NameKind}{x:Str}:∀ {binds:List (Str×Value)}{m:Str->Option Value},(∀ v,(x,v) ∉ binds)->bindL kindOf binds m x=m x
 |[],_,_=>rfl
 |(n,v)::r,m,h=>by
  unfold bindL;rw[yD λw hw=>h w (List.mem_cons_of_mem _ hw)];split
  ·have:x≠n:=by rintro rfl;exact h v List.mem_cons_self
   simp[this]
  ·rfl
theorem yE{kindOf:Str->Option NameKind}{x:Str}:∀ {binds:List (Str×Value)}{m:Str->Option Value},(∀ v,(x,v) ∉ binds)->bindC kindOf binds m x=m x
 |[],_,_=>rfl
 |(n,v)::r,m,h=>by
  unfold bindC;rw[yE λw hw=>h w (List.mem_cons_of_mem _ hw)];split
  ·rfl
  ·have:x≠n:=by rintro rfl;exact h v List.mem_cons_self
   simp[this]
theorem yF{kindOf:Str->Option NameKind}{x:Str}{v:Value}:∀ {P:List Str}{vs:List Value}{i:Nat}{m:Str->Option Value},P.Nodup->P[i]?=some x->vs[i]?=some v->kindOf x=some .local ->
  bindL kindOf (P.zip vs) m x=some v
 |[],_,_,_,_,h,_,_=>by simp at h
 |_::_,[],_,_,_,_,h,_=>by simp at h
 |p::P,w::vs,0,m,nd,h1,h2,hk=>by
  simp at h1 h2;subst h1;subst h2;show bindL kindOf ((p,w)::P.zip vs) m p=_
  unfold bindL;rw[yD λv hv=>(List.nodup_cons.mp nd).1 (List.of_mem_zip hv).1,Zan hk];simp
 |p::P,w::vs,i+1,m,nd,h1,h2,hk=>by
  show bindL kindOf ((p,w)::P.zip vs) m x=_
  unfold bindL;exact yF (i:=i) (List.nodup_cons.mp nd).2 (by simpa using h1) (by simpa using h2) hk
theorem yG{kindOf:Str->Option NameKind}{x:Str}{v:Value}:∀ {P:List Str}{vs:List Value}{i:Nat}{m:Str->Option Value},P.Nodup->P[i]?=some x->vs[i]?=some v->kindOf x≠some .local ->
  bindC kindOf (P.zip vs) m x=some v
 |[],_,_,_,_,h,_,_=>by simp at h
 |_::_,[],_,_,_,_,h,_=>by simp at h
 |p::P,w::vs,0,m,nd,h1,h2,hk=>by
  simp at h1 h2;subst h1;subst h2;show bindC kindOf ((p,w)::P.zip vs) m p=_
  unfold bindC;rw[yE λv hv=>(List.nodup_cons.mp nd).1 (List.of_mem_zip hv).1,Zap hk];simp
 |p::P,w::vs,i+1,m,nd,h1,h2,hk=>by
  show bindC kindOf ((p,w)::P.zip vs) m x=_
  unfold bindC;exact yG (i:=i) (List.nodup_cons.mp nd).2 (by simpa using h1) (by simpa using h2) hk
def start(N:List Str)(vs:List V):St:=vs.map some++List.replicate (N.length-vs.length) none
def Fl(CX:CXT)(P:Program)(w:World)(K:Frag)(mg:Str->Option Value)(base:Heap)(N:List Str)(qual:Str)(scope:Scope)(f:Addr)(cd:Value)(A:Around)(outer:List Env)(s:Shared)(H:Hp)(E:XK):Cx where
 prog:=P
 w:=w
 K:=K
 mg:=mg
 base:=base
 A:=A.deeper (envOfC qual scope s.heap.objs.size f cd)
 N:=N
 s₀:=s
 H₀:=H
 env:=envOfC qual scope s.heap.objs.size f cd
 outer:=outer
 stack:=envOfC qual scope s.heap.objs.size f cd::outer
 ex:=[]
 calm:=true
 fn:=λ_=>true
 pn:=[]
 xe:=λe s'=>wpAny (model P w) (A.deeper (envOfC qual scope s.heap.objs.size f cd)) (leaving (envOfC qual scope s.heap.objs.size f cd) e) (λ_ s''=>CX outer H s E e s'') (λe' s''=>CX outer H s E e' s'') s'
theorem BJ{sc:Scope}{n:Nat}{x:Str}(h:sc.names.lookup x=some .cell):∃ c,(cellsFrom n sc.names []).lookup x=some c:=by
 have q:=PySem.W.cellsFrom_some sc.names n [] (.inl h);exact Option.isSome_iff_exists.mp q
theorem Jd{CX:CXT}{P:Program}{w:World}{K:Frag}{mg:Str->Option Value}{base:Heap}{N ps:List Str}{qual:Str}{scope:Scope}{f:Addr}{cd:Value}{A:Around}{outer:List Env}{s s1:Shared}{H:Hp}{E:XK}{us:List Value}{vs:List V}
  (S:bB N ps scope)(hd:A.handled=none)(e0:NK P w K mg base A outer s H)(hl:vs.length=ps.length)(r:Vals vs us)
  (x:InCallC s s.heap.objs.size (bindL (envOfC qual scope s.heap.objs.size f cd).kindOf (ps.zip us) λ_=>none) (cellsFrom (s.heap.objs.size+1) scope.names []) (bindC (envOfC qual scope s.heap.objs.size f cd).kindOf (ps.zip us) λ_=>none) s1) :
  Inv (Fl CX P w K mg base N qual scope f cd A outer s H E) [] (start N vs) H s1:=by
 have hpl:ps.length<=N.length:=by have:=congrArg List.length S.pre;rw[Za6] at this;lia
 obtain⟨h1,tk,rfl,hk⟩:=x.done;have noA:∀ b:Addr,b ∉ (Fl CX P w K mg base N qual scope f cd A outer s H E).ex:=λb z=>absurd (show b∈([]:List Addr) from z) (by simp)
 refine⟨⟨e0.mod,S.kind,rfl,rfl,Zag _,λy z c h1 h2=>?_,λy hy=>?_,λy c _ h=>?_,λ_=>hd,Around.frames_deeper e0.frames,.inr ⟨rfl,rfl⟩,λb z=>absurd z (noA b),e0.bs,e0.bsz,λb _ _=>noA b,λb z=>absurd z (noA b),e0.vA,e0.frf⟩,
  rfl,e0.bare,Un.kept hk,⟨_,x.toInCall.ns,λi y v h1 h2 h3=>?_⟩,λy c h=>⟨_,x.cell y c h⟩,e0.hok.fresh (Zag _),λy c h=>?_,λp hp=>absurd (show p∈([]:List (Addr×Obj)) from hp) (by simp),e0.hok.kept hk,?_⟩
 ·exact name_of_addr x.apart (Zbj h1) (Zbj h2)
 ·have hy:scope.names.lookup y=some .cell\/scope.names.lookup y=some .free:=hy;rcases hy with hy|hy
  ·exact BJ hy
  ·exact absurd rfl (S.nofree _ (Zbj hy))
 ·exact ZaQ (x.above y c (Zbj h))
 ·have hi:i<vs.length:=by
   unfold start at h2;by_cases hi:i<vs.length
   ·exact hi
   ·rw[Zaz (by simpa using hi)] at h2
    rw[ZaV] at h2;split at h2<;>cases h2
  have ha:vs[i]?=some v:=by
   unfold start at h2;rw[Zat (by simpa using hi),Zac] at h2
   cases e:vs[i]? with
   |none=>rw[e] at h2;cases h2
   |some a=>rw[e] at h2;cases h2;rfl
  obtain⟨u,hu,rv⟩:=r.get ha;have hp:ps[i]?=some y:=by
   rw[<-S.pre,List.getElem?_take_of_lt (by lia)];exact h1
  have ndP:ps.Nodup:=by rw[<-S.pre];exact S.nd.sublist (List.take_sublist _ _)
  refine⟨u,rv,?_⟩;rcases S.par y (ZaI hp) with k|k
  ·exact .inl ⟨k,yF ndP hp hu k⟩
  ·obtain⟨c,e⟩:=BJ (n:=s.heap.objs.size+1) k;refine .inr ⟨.inl k,c,e,?_⟩;have q:=x.cell y c e;rw[yG ndP hp hu (by show scope.names.lookup y≠_;rw[k];decide)] at q
   exact q
 ·exact e0.hok.fresh (ZaQ (x.above y c (Zbj h)))
 ·unfold start;show _=N.length
  rw[List.length_append,List.length_map,List.length_replicate];lia
theorem Tj{CX:CXT}{P:Program}{w:World}{K:Frag}{mg:Str->Option Value}{base:Heap}{k:Nat}{f:Addr}{name qual:Str}{params:Arguments}{body:List Stmt}{scope:Scope}{dV kV doc pm cdv ct oc:Value}{an od:Option Addr}
  {osl:Array (Option Value)}{N ps:List Str}{sp:Sp}(lk:K.lookup f=some ⟨oc,od,.func (fnOf name qual params body scope dV kV doc pm an cdv ct),osl⟩)(hcd:codeIn K cdv qual=true)(S:bB N ps scope)
  (len:∀ vs H Q E,sp vs H Q E->vs.length=ps.length)
  (hbody:∀ (A:Around) (outer:List Env) (s:Shared) (H:Hp) (vs:List V) (Q:VK) (E:XK),fX k (A.deeper (envOfC qual scope s.heap.objs.size f cdv))->sp vs H Q E ->
   ∃ t,PSs (Fl CX P w K mg base N qual scope f cdv A outer s H E) body t/\t { nx:=λ_ H'=>Q .non H',rt:=Q } (start N vs) H) :
  yf P w K mg base CX (k+1) f (fnOf name qual params body scope dV kV doc pm an cdv ct) ps sp:=by
 refine⟨len,λA outer s H args us vs Q E hr e0 hb r hsp=>?_⟩;have hl:=len _ _ _ _ hsp;have KX:K.In s.heap:=e0.mod.kin.keeps λb o e=>(e0.bs b o e).1;have lim:s.heap.NoLimit:=e0.mod.nolimit.keeps λb o e=>(e0.bs b o e).1;have hkind:∀ y∈ps.zip us,scope.names.lookup y.1=some .local\/(scope.names.lookup y.1=some .cell/\((cellsFrom (s.heap.objs.size+1) scope.names []).lookup y.1).isSome=true):=λ⟨n,v⟩ hy=>by
  rcases S.par n (List.of_mem_zip hy).1 with q|q
  ·exact .inl q
  ·exact .inr ⟨q,PySem.W.cellsFrom_some _ _ _ (.inl q)⟩
 refine codeAny_call_function hr.depth (KX _ _ lk) rfl S.co S.gen rfl (PySem.W.codeRec_of KX hcd) (hb _ _ _ _ ?_);refine wpAny_newFunctionEnv_cells S.kind hkind λenv he s1 x=>?_;subst he;refine⟨lim.keeps x.toInCall.keep,codeAny_func ?_⟩;obtain⟨t,ht,hq⟩:=hbody A outer s H vs Q E (hr.deeper _) hsp;have I:Inv (Fl CX P w K mg base N qual scope f cdv A outer s H E) [] (start N vs) H s1:=Jd S hr.hd e0 hl r x;refine ZaY (ht [] s1 (start N vs) H _ I hq) (λfl s' hs=>?_) λe s' hs=>hs;have fin:∀ {σ':St}{H':Hp}{v:V}{u:Value},Inv (Fl CX P w K mg base N qual scope f cdv A outer s H E) [] σ' H' s'->RelV v u->Q v H'->CE outer P w H s Q u s':=
  λ{σ' H' v u} J rv q=>⟨v,H',J.os,J.bare,J.base,J.hok,rv,q⟩
 cases fl with
 |ret u=>
  obtain⟨v,σ',H',J,rv,q⟩:=hs;exact fin J rv q
 |next=>
  obtain⟨σ',H',J,q⟩:=hs;exact fin (v:=V.non) (u:=Value.none) J rfl q
 |brk=>
  obtain⟨_,_,_,q⟩:=hs;exact False.elim q
 |cont=>
  obtain⟨_,_,_,q⟩:=hs;exact False.elim q
section
variable{X:Cx}{x:Str}{p pos:Pos}{e:Expr}{es:List Expr}{t:TA}{id T:String}{r:List V->Hp->VK->Prop}
def tCB(r:List V->Hp->VK->Prop)(t:TA):TE:=λσ H Q=>t σ H λvs H1=>r vs H1 Q
theorem bZ(hc:qQ X (.builtin id) r)(hg:Gl X x)(hm:X.mg x=none)(hv:bootBuiltins x=some (.builtin id))(ha:PA X (e::es) t)(hn:x≠"__name__":=by decide)(hdb:(x==("__debug__":Str))=false:=by decide)
  (he:starEach (e::es) X.env=(false,eval e X.env)::starEach es X.env:=by rfl)(hpl:(backTo pos (starEach es X.env)).any (·.1)=false:=by rfl):PE X (.Call (.Name x p) (e::es) [] pos) (tCB r t):=by
 intro pins s σ H Q I h;refine wpAny_Call_Name_kw (ur I hg hm hv ?_ hn hdb);exact PyProof.Rows.callWith_builtin1 (thn (ha pos pins s σ H _ I h) λus s1 ⟨vs,H1,I1,r1,q1⟩=>hc pins s1 σ H1 vs us Q I1 r1 q1) he hpl
theorem fu(hc:qQ X (.type T) r)(hg:Gl X x)(hm:X.mg x=none)(hv:bootBuiltins x=some (.type T))(ha:PA X (e::es) t)(hn:x≠"__name__":=by decide)(hdb:(x==("__debug__":Str))=false:=by decide)
  (he:starEach (e::es) X.env=(false,eval e X.env)::starEach es X.env:=by rfl)(hpl:(backTo pos (starEach es X.env)).any (·.1)=false:=by rfl):PE X (.Call (.Name x p) (e::es) [] pos) (tCB r t):=by
 intro pins s σ H Q I h;refine wpAny_Call_Name_kw (ur I hg hm hv ?_ hn hdb);exact Zba (thn (ha pos pins s σ H _ I h) λus s1 ⟨vs,H1,I1,r1,q1⟩=>hc pins s1 σ H1 vs us Q I1 r1 q1) he hpl
end
end L2
namespace HT
open PySem PyProof.Rows
section
variable{prog:Program}{w:World}{A:Around}{E:Value->Shared->Prop}{s:Shared}
theorem NQ{t b:Addr}{vs ws:List Value}{Q:Value->Shared->Prop}(ht:IsTup s.heap t vs.toArray)(hb:IsTup s.heap b ws.toArray)(hv:vs≠[])
  (h1:ws=[]->Q (.ref t) s)(h2:ws≠[]->Q (.ref s.heap.objs.size) { s with heap:=s.heap.push { cls:=.type "tuple",data:=.seq (vs++ws).toArray } })
  (hsz:vs.length+ws.length<=sizeLine):wpAny (model prog w) A (binaryOp .Add (.ref t) (.ref b)) Q E s:=by
 obtain⟨⟨cls,dd,data,sl⟩,ho,hc,n,hd⟩:=id ht;obtain⟨⟨cls2,dd2,data2,sl2⟩,ho2,hc2,n2,hd2⟩:=id hb;simp only at hc hd hc2 hd2;subst hc hd hc2 hd2;have e:vs.toArray++ws.toArray=(vs++ws).toArray:=by simp
 by_cases hw:ws=[]
 ·exact concat_meets ⟨_,ho,rfl⟩ ⟨_,ho2,rfl⟩ noFill_tuple_add seq_tuple_add PySem.F.slot_tuple_add PySem.F.entry_tuple_add (PySem.F.args_tuple_add_2 _ _)
   (tuple_addW1 t b vs.toArray ws.toArray n n2 dd dd2 sl sl2 (by simpa using hv) (by simp[hw])) ⟨ho,ho2,h1 hw⟩
 ·refine concat_meets ⟨_,ho,rfl⟩ ⟨_,ho2,rfl⟩ noFill_tuple_add seq_tuple_add PySem.F.slot_tuple_add PySem.F.entry_tuple_add (PySem.F.args_tuple_add_2 _ _)
   (tuple_addW2 t b vs.toArray ws.toArray n n2 dd dd2 sl sl2 (by simpa using hv) (by simpa using hw) (by rw[List.size_toArray,List.size_toArray];exact hsz)) ⟨ho,ho2,?_⟩
  rw[e];exact h2 hw
def sIx(n d:Nat):Option Int->Nat
 |none=>d
 |some v=>if v<0 then(v+(n:Int)).toNat else min v.toNat n
theorem BK(n d:Nat):sIx n d none=d:=rfl
theorem Hc(n d k:Nat):sIx n d (some (k:Int))=min k n:=by
 show(if(k:Int)<0 then((k:Int)+(n:Int)).toNat else min (k:Int).toNat n)=min k n
 rw[Zap (by omega),Zak]
theorem Rp(n d:Nat)(hd:d<=n)(o:Option Int):sIx n d o<=n:=by
 cases o with
 |none=>exact hd
 |some v=>
  show(if v<0 then(v+(n:Int)).toNat else min v.toNat n)<=n
  by_cases hv:v<0
  ·rw[Zan hv];omega
  ·rw[Zap hv];exact Nat.min_le_right _ _
theorem Hd(v:Int)(n d:Nat):(if v<0 then max (v+(n:Int)) 0 else min v (n:Int))=((sIx n d (some v):Nat):Int):=by
 show(if v<0 then max (v+(n:Int)) 0 else min v (n:Int))=(((if v<0 then(v+(n:Int)).toNat else min v.toNat n):Nat):Int)
 by_cases hv:v<0
 ·simp only[Zan hv];omega
 ·simp only[Zap hv];omega
theorem Fo(lo hi:Option Int)(n:Nat):Builtin.Slice.sliceAdjust lo hi 1 (n:Int)=(((sIx n 0 lo:Nat):Int),((sIx n n hi:Nat):Int)):=by
 have h1:¬((1:Int)<0):=by omega
 unfold Builtin.Slice.sliceAdjust;simp only[h1,ZaT];refine Prod.ext ?_ ?_
 ·cases lo with
  |none=>rfl
  |some v=>exact Hd v n 0
 ·cases hi with
  |none=>rfl
  |some v=>exact Hd v n n
theorem Fp(i j:Nat):Builtin.Slice.slicePlaces (i:Int) (j:Int) 1=j-i:=by
 unfold Builtin.Slice.slicePlaces;have h1:(1:Int)>0:=by omega
 simp only[h1,Za7,Int.ediv_one];split<;>omega
theorem wB{v:Value}{o:Option Int}{Q:Option Int->Shared->Prop}(p:IsPart v o)(h:Q o s):wpAny (model prog w) A (Builtin.Slice.slicePartIndex v) Q E s:=by
 cases p with
 |none=>exact slicePart_none h
 |int i t=>exact slicePart_int h
theorem uz{sl:Addr}{vl vu:Value}{lo hi:Option Int}{n:Nat}{Q:Int×Int×Nat->Shared->Prop}(hs:s.heap.IsSliceOf sl vl vu .none)(pl:IsPart vl lo)(pu:IsPart vu hi)
  (h:Q (((sIx n 0 lo:Nat):Int),1,sIx n n hi-sIx n 0 lo) s):wpAny (model prog w) A (Builtin.Slice.sliceApplied (.ref sl) (pure (n:Int))) Q E s:=by
 obtain⟨os,hos,hcs,hds⟩:=id hs;unfold Builtin.Slice.sliceApplied Builtin.Slice.sliceFields;refine Zah (Zah (wpAny_field hos hds (x:=vl) rfl (Zah (wpAny_field hos hds (x:=vu) rfl (Zah (wpAny_field hos hds (x:=.none) rfl (Zaw ?_)))))));refine Zah (slicePart_none ?_);show wpAny _ _ (if((1:Int)==0)=true then _ else _) _ _ s
 rw[Zap (by decide)]
 refine Zah (wB pl (Zah (wB pu (Zah (Zaw ?_)))));show wpAny _ _ (match Builtin.Slice.sliceAdjust lo hi 1 (n:Int) with|(lo,hi)=>pure (lo,(1:Int),Builtin.Slice.slicePlaces lo hi 1)) _ _ s
 rw[Fo lo hi n];show wpAny _ _ (pure (((sIx n 0 lo:Nat):Int),(1:Int),Builtin.Slice.slicePlaces ((sIx n 0 lo:Nat):Int) ((sIx n n hi:Nat):Int) 1)) _ _ s
 rw[Fp];exact Zaw h
theorem Kr(xs:Array Value)(i k:Nat):((List.range k).filterMap λ(m:Nat)=>xs[((i:Int)+(m:Int)*1).toNat]?).toArray=((xs.toList.drop i).take k).toArray:=by
 have e:(λ(m:Nat)=>xs[((i:Int)+(m:Int)*1).toNat]?)=λm=>xs[i+m]?:=by
  funext m
  have:((i:Int)+(m:Int)*1).toNat=i+m:=by omega
  rw[this]
 rw[e];have:=pick_run xs i k;rw[List.filterMap_map] at this;have e2:((λx=>xs[x]?) ∘ λx=>i+x)=λm=>xs[i+m]?:=rfl;rw[e2] at this;rw[this]
theorem tu{t sl:Addr}{items:Array Value}{vl vu:Value}{lo hi:Option Int}{Q:Value->Shared->Prop}(ht:IsTup s.heap t items)(hs:s.heap.IsSliceOf sl vl vu .none)(pl:IsPart vl lo)(pu:IsPart vu hi)
  (hw:¬(sIx items.size 0 lo=0/\sIx items.size items.size hi=items.size))
  (h:Q (.ref s.heap.objs.size) { s with heap:=s.heap.push { cls:=.type "tuple",data:=.seq ((items.toList.drop (sIx items.size 0 lo)).take (sIx items.size items.size hi-sIx items.size 0 lo)).toArray } })
  (hsz:items.size<=sizeLine):wpAny (model prog w) A (getItem (.ref t) (.ref sl)) Q E s:=by
 have htake:sizeOk (.seq ((items.toList.drop (sIx items.size 0 lo)).take (sIx items.size items.size hi-sIx items.size 0 lo)).toArray):=by
  show((items.toList.drop (sIx items.size 0 lo)).take (sIx items.size items.size hi-sIx items.size 0 lo)).toArray.size<=sizeLine
  rw[List.size_toArray,Za6,List.length_drop,Za9];omega
 have hj:sIx items.size items.size hi<=items.size:=Rp _ _ (Zag _) hi;obtain⟨os,hos,hcs,hds⟩:=id hs;have hTs:s.TypeIs (.ref sl) "slice":=⟨os,hos,hcs⟩;unfold getItem
 try with_reducible refine wpAny_holding ?_
 first|refine Zah (Zaw ?_)|skip
 refine Zah (wpAny_sequenceKey ht.typeIs (by decide) ?_)
 refine Zah (wpAny_callSpecial?_slot (name:=Str.ofString "__getitem__") ht.typeIs PyProof.Rows.slot_tuple_getitem
  (wpAny_call_entry PyProof.Rows.slot_tuple_getitem ht.typeIs entry_tuple_getitem ?_ (args_tuple_getitem _ _)))
 show wpAny _ _ (Builtin.Tuple.tupleItemsOf (.ref t)>>=_) _ _ s
 refine Zah (tupleItemsOf_ ht ?_);refine Zah (wpAny_typeOf hTs ?_);rw[Zan (by decide)]
 refine Zah (uz hs pl pu ?_);have hno:¬((((sIx items.size 0 lo:Nat):Int)==0&&(1:Int)==1&&(sIx items.size items.size hi-sIx items.size 0 lo)==items.size)=true):=by
  intro q;rw[Bool.and_eq_true,Bool.and_eq_true] at q;have q1:((sIx items.size 0 lo:Nat):Int)=0:=eq_of_beq q.1.1;have q2:sIx items.size items.size hi-sIx items.size 0 lo=items.size:=eq_of_beq q.2;exact hw ⟨by omega,by omega⟩
 show wpAny _ _ (if(((sIx items.size 0 lo:Nat):Int)==0&&(1:Int)==1&&(sIx items.size items.size hi-sIx items.size 0 lo)==items.size)=true then _ else _) _ _ s
 rw[Zap hno,Kr]
 first
  |exact Zah (m:=Builtin.Tuple.tupleExact _) (wpAny_newObj_type (Zaw ⟨_,rfl,Zaw h⟩) htake)
  |exact Zah (m:=Builtin.Tuple.tupleExact _) (wpAny_newObj_type (Zah (Zaw (Zaw ⟨_,rfl,Zaw h⟩))) htake)
  |exact Zah (Zah (m:=Builtin.Tuple.tupleExact _) (wpAny_newObj_type (Zaw (Zaw ⟨_,rfl,Zaw h⟩)) htake))
  |exact Zah (Zah (m:=Builtin.Tuple.tupleExact _) (wpAny_newObj_type (Zaw ⟨_,rfl,Zaw h⟩) htake))
end
end HT
namespace L2
open PySem PySem.Spec PyProof.Rows
noncomputable abbrev TO:=St->Hp->(Option Int->Hp->Prop)->Prop
def PO(X:Cx)(e:Option Expr)(t:TO):Prop:=
 ∀ (pins:List (Addr×Obj)) (s:Shared) (σ:St) (H:Hp) (Q:Option Int->Hp->Prop),Inv X pins σ H s->t σ H Q ->
  wpAny (model X.prog X.w) X.A (evalPart e X.env) (λu s'=>∃ o H',Inv X pins σ H' s'/\IsPart u o/\Q o H') X.xe s
def Hf:TO:=λ_ H Q=>Q none H
def Qx(t:TE):TO:=λσ H Q=>t σ H λx H1=>∃ i,x=.int i/\Q (some i) H1
section
variable{X:Cx}{e:Expr}{te:TE}{lo hi:Option Expr}{tl th:TO}{pos p2:Pos}
theorem qp:PO X none Hf:=by
 intro pins s σ H Q I h;rw[evalPart_none];exact Zaw ⟨none,H,I,.none,h⟩
theorem gO(h:PE X e te):PO X (some e) (Qx te):=by
 intro pins s σ H Q I hw;rw[evalPart_some];refine thn (h pins s σ H _ I hw) ?_;rintro u s1 ⟨x,H1,I1,r1,q1⟩;obtain⟨i,rfl,q⟩:=q1;obtain⟨t,rfl⟩:=r1;exact⟨some i,H1,I1,.int i t,q⟩
def SlR(X:Cx)(r:V->Option Int->Option Int->Hp->VK->Prop):Prop:=
 ∀ (pins:List (Addr×Obj)) (s:Shared) (σ:St) (H:Hp) (x:V) (v vl vu:Value) (lo hi:Option Int) (sl:Addr) (Q:VK),Inv X pins σ H s->RelV x v->s.heap.IsSliceOf sl vl vu .none->IsPart vl lo->IsPart vu hi->r x lo hi H Q ->
  ∃ T id,typeLookup (.type T) "__getitem__"=pure (some (.builtin id))/\s.TypeIs v T/\wpAny (model X.prog X.w) X.A (getItem v (.ref sl)) (EP X pins σ Q) X.xe s
def tSl(r:V->Option Int->Option Int->Hp->VK->Prop)(te:TE)(tl th:TO):TE:=λσ H Q=>te σ H λx H1=>tl σ H1 λl H2=>th σ H2 λu H3=>r x l u H3 Q
theorem jT{r:V->Option Int->Option Int->Hp->VK->Prop}(hr:SlR X r)(he:PE X e te)(hl:PO X lo tl)(hu:PO X hi th):PE X (.Subscript e (.Slice lo hi none p2) pos) (tSl r te tl th):=by
 intro pins s σ H Q I h;refine Subscript_ (thn (he pins s σ H _ I h) ?_);rintro v s1 ⟨x,H1,I1,r1,q1⟩;refine wpAny_Slice (thn (hl pins s1 σ H1 _ I1 q1) λvl s2 ⟨l,H2,I2,pl,q2⟩=>thn (hu pins s2 σ H2 _ I2 q2) ?_);rintro vu s3 ⟨u,H3,I3,pu,q3⟩;rw[evalPart_none];refine Zaw ?_;have I4:Inv X pins σ H3 { s3 with heap:=s3.heap.push { cls:=.type "slice",data:=.fields #[vl,vu,.none] } }:=I3.kept (t':=s3.toks) λb ob q=>Zaf _ q;obtain⟨T,id,hT,ht,hg⟩:=hr pins { s3 with heap:=s3.heap.push { cls:=.type "slice",data:=.fields #[vl,vu,.none] } } σ H3 x v vl vu l u s3.heap.objs.size Q I4 r1 (Heap.IsSliceOf.new ..) pl pu q3;show wpAny (model X.prog X.w) X.A (subscriptTail e (.Slice lo hi none p2) v (.ref s3.heap.objs.size)) (EP X pins σ Q) X.xe { s3 with heap:=s3.heap.push { cls:=.type "slice",data:=.fields #[vl,vu,.none] } }
 exact tail_any (ops:=[.ref s3.heap.objs.size,v]) ht hT hg (by with_unfolding_all rfl)
def zy(xs:List V)(lo hi:Option Int):List V:=(xs.drop (HT.sIx xs.length 0 lo)).take (HT.sIx xs.length xs.length hi-HT.sIx xs.length 0 lo)
theorem uZ(xs:List V)(lo hi:Option Int):(zy xs lo hi).length<=xs.length:=by
 unfold zy;rw[Za6,List.length_drop];omega
def Tn(K:Frag):V->Option Int->Option Int->Hp->VK->Prop:=λx lo hi H Q=>∃ a xs,x=.ref a/\SqT K H a xs /\
 ¬(HT.sIx xs.length 0 lo=0/\HT.sIx xs.length xs.length hi=xs.length)/\∀ p,H p=none->Q (.ref p) (upd H p (.tup (zy xs lo hi)))
theorem Rq:SlR X (Tn X.K):=by
 intro pins s σ H x v vl vu lo hi sl Q I rx hs pl pu h;obtain⟨a,xs,rfl,hx,hw,q⟩:=h;cases rx;obtain⟨its,r,ht,hz⟩:=I.tuple hx;have hlen:its.toArray.size=xs.length:=by rw[List.size_toArray];exact r.length.symm
 refine⟨"tuple",_,PyProof.Rows.slot_tuple_getitem.lookup,ht.typeIs,?_⟩;refine HT.tu ht hs pl pu (by rw[hlen];exact hw) ?_ (by rw[hlen];exact hz)
 rw[hlen];refine⟨.ref s.heap.objs.size,_,I.laid (t':=s.toks) (o:=.tup (zy xs lo hi)) (λb ob q=>Zaf _ q) (Zag _) ?_,rfl,q _ (I.hok.fresh (Zag _))⟩;exact⟨ZaC (uZ xs lo hi) hz,_,(r.drop (HT.sIx xs.length 0 lo)).take (HT.sIx xs.length xs.length hi-HT.sIx xs.length 0 lo),gC.new _ _⟩
def Qy(K:Frag):R2:=λx y H Q=>∃ a b xs ys,x=.ref a/\y=.ref b/\SqT K H a xs/\SqT K H b ys/\xs≠[]/\xs.length+ys.length<=sizeLine /\
 (ys=[]->Q (.ref a) H)/\(ys≠[]->∀ p,H p=none->Q (.ref p) (upd H p (.tup (xs++ys))))
theorem Vals.zz{xs:List V}{us:List Value}(r:Vals xs us):us=[]↔xs=[]:=by
 cases r with
 |nil=>simp
 |cons _ _=>simp
theorem NT:OpR X (binaryOp .Add) (Qy X.K):=by
 intro pins s σ H x y v u Q I rx ry h;obtain⟨a,b,xs,ys,rfl,rfl,ha,hb,hx,hz,q1,q2⟩:=h;cases rx;cases ry;obtain⟨its,r1,p1,_⟩:=I.tuple ha;obtain⟨its2,r2,p2,_⟩:=I.tuple hb;refine HT.NQ p1 p2 (λz=>hx (r1.zz.mp z)) (λz=>⟨.ref a,H,I,rfl,q1 (r2.zz.mp z)⟩) (λz=>?_) (by rw[<-r1.length,<-r2.length];exact hz)
 refine⟨.ref s.heap.objs.size,_,I.laid (t':=s.toks) (o:=.tup (xs++ys)) (λb ob q=>Zaf _ q) (Zag _) ?_,rfl,q2 (λw=>z (r2.zz.mpr w)) _ (I.hok.fresh (Zag _))⟩;exact⟨by rw[List.length_append];exact hz,_,r1.append r2,gC.new _ _⟩
end
def ixN(n:Nat)(i:Int):Option Nat:=if 0<=i then(if i<n then some i.toNat else none) else if -(n:Int)<=i then some (i+n).toNat else none
def atI{α:Type}(xs:List α)(i:Int):Option α:=(ixN xs.length i).bind λj=>xs[j]?
theorem Hg{n:Nat}{i:Int}{j:Nat}(h:ixN n i=some j):seqIndex? i n=some j/\j<n/\-(n:Int)<=i/\i<n:=by
 unfold ixN at h;by_cases h0:0<=i
 ·rw[Zan h0] at h;by_cases h1:i<n
  ·rw[Zan h1] at h;have e:i.toNat=j:=Zaa h;exact⟨by rw[seqIndex_of h0 h1,e],by lia,by lia,h1⟩
  ·rw[Zap h1] at h;cases h
 ·rw[Zap h0] at h;by_cases h1:-(n:Int)<=i
  ·rw[Zan h1] at h;have e:(i+n).toNat=j:=Zaa h;exact⟨by rw[seqIndex_neg (by lia) h1,e],by lia,h1,by lia⟩
  ·rw[Zap h1] at h;cases h
theorem zA{α:Type}{xs:List α}{i:Int}{v:α}(h:atI xs i=some v):∃ j,seqIndex? i xs.length=some j/\xs[j]?=some v/\j<xs.length/\-(xs.length:Int)<=i/\i<xs.length:=by
 unfold atI at h;cases e:ixN xs.length i with
 |none=>rw[e] at h;cases h
 |some j=>
  rw[e] at h;obtain⟨h1,h2,h3,h4⟩:=Hg e;exact⟨j,h1,h,h2,h3,h4⟩
theorem cP{α:Type}{xs:List α}{j:Nat}{v:α}(h:xs[j]?=some v):atI xs (j:Int)=some v:=by
 have hj:j<xs.length:=(Zar.mp h).1;have e:ixN xs.length (j:Int)=some j:=by
  unfold ixN;rw[Zan (by lia),Zan (by lia)];simp
 unfold atI;rw[e];exact h
theorem Ks{α:Type}(xs:List α)(v:α):atI (xs++[v]) (-1)=some v:=by
 have hl:(xs++[v]).length=xs.length+1:=by simp
 have e:ixN (xs++[v]).length (-1)=some xs.length:=by
  unfold ixN;rw[hl,Zap (by decide),Zan (by omega)]
  congr 1
  omega
 unfold atI;rw[e];show(xs++[v])[xs.length]?=some v
 simp
def NZ(b:Expr):Prop:=∀ o i,subscripted b false o i=operate [o,i] (getItem o i)
def IxR(X:Cx)(r:R2):Prop:=
 ∀ (value slice:Expr) (pins:List (Addr×Obj)) (s:Shared) (σ:St) (H:Hp) (x y:V) (v u:Value) (Q:VK),Inv X pins σ H s->RelV x v->RelV y u->r x y H Q ->
  subscripted slice false v u=operate [v,u] (getItem v u)->wpAny (model X.prog X.w) X.A (subscriptTail value slice v u) (EP X pins σ Q) X.xe s
def MtR(X:Cx)(id:String)(r:V->List V->Hp->VK->Prop):Prop:=
 ∀ (pins:List (Addr×Obj)) (s:Shared) (σ:St) (H:Hp) (x:V) (xs:List V) (v:Value) (us:List Value) (Q:VK),Inv X pins σ H s->RelV x v->Vals xs us->r x xs H Q ->
  wpAny (model X.prog X.w) X.A (call (.builtin id) (v::us)) (EP X pins σ Q) X.xe s
section
variable{X:Cx}{a b:Expr}{ta tb:TE}{pos:Pos}
theorem IxR.or{r r':R2}(h:IxR X r)(h':IxR X r'):IxR X (λx y H Q=>r x y H Q\/r' x y H Q):=by
 intro value slice pins s σ H x y v u Q I rx ry q hs;rcases q with q|q
 ·exact h value slice pins s σ H x y v u Q I rx ry q hs
 ·exact h' value slice pins s σ H x y v u Q I rx ry q hs
theorem aP{r:R2}(hr:IxR X r)(ha:PE X a ta)(hb:PE X b tb)(hs:NZ b):PE X (.Subscript a b pos) (tOp r ta tb):=by
 intro pins s σ H Q I h;exact Subscript_ (Rf ha hb I h λv u s2 x y H2 I2 rx ry q=>hr a b pins s2 σ H2 x y v u Q I2 rx ry q (hs _ _))
def Tp(K:Frag):R2:=λx y H Q=>∃ p xs i v,x=.ref p/\y=.int i/\SqL K H p xs/\atI xs i=some v/\Q v H
def Tq(K:Frag):R2:=λx y H Q=>∃ p xs i v,x=.ref p/\y=.int i/\SqT K H p xs/\atI xs i=some v/\Q v H
def Tr:R2:=λx y H Q=>∃ z i c,x=.str z/\y=.int i/\z.length<=sizeLine/\atI z.cps.toList i=some c/\Q (.str ⟨#[c]⟩) H
theorem N5:IxR X (Tp X.K):=by
 intro value slice pins s σ H x y v u Q I rx ry h hs;obtain⟨p,xs,i,z,rfl,rfl,hq,he,q⟩:=h;cases rx;obtain⟨t,rfl⟩:=ry;obtain⟨its,r,pl,hz⟩:=I.list hq;obtain⟨j,h1,h2,h3,h4,h5⟩:=zA he;obtain⟨w,ew,rw'⟩:=r.get h2;have hl:=r.length;have hn:=wz;have fin:EP X pins σ Q w s:=⟨z,H,I,rw',q⟩;by_cases h0:0<=i
 ·have hj:i.toNat=j:=by
   rw[seqIndex_of h0 h5] at h1;exact Zaa h1
  exact item_listR pl.isList h0 (by lia) (by rw[hj];simpa using ew) fin hs
 ·have hj:(i+(its.toArray.size:Int)).toNat=j:=by
   rw[seqIndex_neg (by lia) h4] at h1
   rw[List.size_toArray,<-hl];exact Zaa h1
  exact subscriptTail_builtinR (x:=w) pl.isList.typeIs slot_list_getitem.lookup
   (wpAny_getItem_list_neg (Q:=λr s'=>r=w/\EP X pins σ Q r s') pl.isList (by lia) (by rw[List.size_toArray]<;>lia) (by lia) (by rw[hj];simpa using ew) ⟨rfl,fin⟩) hs
theorem Rr:IxR X (Tq X.K):=by
 intro value slice pins s σ H x y v u Q I rx ry h hs;obtain⟨p,xs,i,z,rfl,rfl,hq,he,q⟩:=h;cases rx;obtain⟨t,rfl⟩:=ry;obtain⟨its,r,pl,hz⟩:=I.tuple hq;obtain⟨j,h1,h2,h3,h4,h5⟩:=zA he;obtain⟨w,ew,rw'⟩:=r.get h2;have hl:=r.length;have hn:=wz;have fin:EP X pins σ Q w s:=⟨z,H,I,rw',q⟩;exact subscriptTail_builtinR (x:=w) pl.typeIs slot_tuple_getitem.lookup
  (getItem_tuple (j:=j) (Q:=λr s'=>r=w/\EP X pins σ Q r s') pl (by omega) (by omega) (by rw[List.size_toArray,<-hl];exact h1) (by simpa using ew) ⟨rfl,fin⟩) hs
theorem Rt:IxR X Tr:=by
 intro value slice pins s σ H x y v u Q I rx ry h hs;obtain⟨z,i,c,rfl,rfl,hz,he,q⟩:=h;obtain⟨t,rfl⟩:=rx;obtain⟨t',rfl⟩:=ry;obtain⟨j,h1,h2,h3,h4,h5⟩:=zA he;have hl:z.cps.toList.length=z.length:=by simp[Str.length]
 rw[hl] at h1 h4 h5;have hn:=wz;exact tail_any (typeIs_str s z t) slot_str_getitem.lookup (getItem_str (c:=c) (by
  have e1:decide (i < -(2^63:Int))=false:=Zay (by lia)
  have e2:decide (i>=2^63)=false:=Zay (by lia)
  rw[e1,e2,Bool.or_false]) (by rw[h1];simpa using h2) ⟨.str ⟨#[c]⟩,H,I.tok _,⟨_,rfl⟩,q⟩) hs
def rIx(K:Frag):R2:=λx y H Q=>Tp K x y H Q\/Tq K x y H Q\/Tr x y H Q
theorem aK:IxR X (rIx X.K):=N5.or (Rr.or Rt)
theorem Fq(its:List Value)(n j:Nat)(u:Value):Obj.mapSeq (·.setIfInBounds j u) { cls:=.type "list",data:=.seq its.toArray n }={ cls:=.type "list",data:=.seq (its.set j u).toArray n }:=by
 simp[Obj.mapSeq]
theorem Inv.lst{pins:List (Addr×Obj)}{σ:St}{H:Hp}{s:Shared}{p:Addr}{xs:List V}(I:Inv X pins σ H s)(h:H p=some (.lst xs)) :
  ∃ (its:List Value) (n:Nat),Vals xs its/\s.heap.get? p=some { cls:=.type "list",data:=.seq its.toArray n }/\xs.length<=sizeLine:=by
 obtain⟨z,its,n,r,e⟩:=I.hok p _ h;exact⟨its,n,r,e,z⟩
theorem Inv.Ru{pins:List (Addr×Obj)}{σ:St}{H:Hp}{s:Shared}{p:Addr}{xs ys:List V}{its its':List Value}{n n':Nat}{f:Obj->Obj}(I:Inv X pins σ H s)(h:H p=some (.lst xs))
  (ho:s.heap.get? p=some { cls:=.type "list",data:=.seq its.toArray n })(hf:f { cls:=.type "list",data:=.seq its.toArray n }={ cls:=.type "list",data:=.seq its'.toArray n' })(r:Vals ys its')(hz:ys.length<=sizeLine)(t:Nat) :
  Inv X pins σ (upd H p (.lst ys)) { s with heap:=s.heap.update p f,toks:=t }:=by
 have e:(s.heap.update p f).get? p=some { cls:=.type "list",data:=.seq its'.toArray n' }:=by
  rw[Heap.get?_update_self f ho (by rw[hf]<;>rfl),hf]
 refine I.write (x:=p) (e:=p) (by rw[h];trivial) (.inl rfl) (λb u hb q=>(Heap.get?_update_other _ _ (Za0 hb)).trans q) ⟨_,e⟩ ?_
 exact⟨hz,its',n',r,e⟩
def BL:V->V->V->Hp->(Hp->Prop)->Prop:=λo i v H Q=>∃ p xs k j,o=.ref p/\i=.int k/\H p=some (.lst xs)/\ixN xs.length k=some j/\Q (upd H p (.lst (xs.set j v)))
theorem set_list:S7 X BL:=by
 intro pins s σ H o i v ov iv u Q I ro ri rv h;obtain⟨p,xs,k,j,rfl,rfl,hp,hj,q⟩:=h;cases ro;obtain⟨t,rfl⟩:=ri;obtain⟨its,n,r,ho,hz⟩:=I.lst hp;obtain⟨h1,h2,h3,h4⟩:=Hg hj;have hl:=r.length;have hn:=wz;have I':Inv X pins σ (upd H p (.lst (xs.set j v))) { s with heap:=s.heap.update p (Obj.mapSeq (·.setIfInBounds j u)) }:=
  I.Ru hp ho (Fq its n j u) (r.set rv j) (by rw[List.length_set];exact hz) s.toks
 by_cases h0:0<=k
 ·have hk:k.toNat=j:=by
   rw[seqIndex_of h0 h4] at h1;exact Zaa h1
  exact PySem.W.ki_setAt ho h0 (by omega) (by rw[List.size_toArray,<-hl];exact h4) (by rw[hk];exact⟨_,I',q⟩)
 ·have hk:(k+(its.toArray.size:Int)).toNat=j:=by
   rw[seqIndex_neg (by omega) h3] at h1
   rw[List.size_toArray,<-hl];exact Zaa h1
  exact PySem.W.ki_setBack ho (by omega) (by rw[List.size_toArray,<-hl];exact h3) (by omega) (by rw[hk];exact⟨_,I',q⟩)
theorem zB(lo hi:Option Int)(n:Nat):(sliceBounds lo hi none n).1=((HT.sIx n 0 lo:Nat):Int)/\(sliceBounds lo hi none n).2.1=((HT.sIx n n hi:Nat):Int)/\(sliceBounds lo hi none n).2.2=1:=by
 refine⟨?_,?_,rfl⟩
 ·cases lo with
  |none=>simp[sliceBounds,HT.sIx]
  |some i=>
   simp only[sliceBounds,HT.sIx,Option.getD_none,show(1:Int)>0 by decide,Za7]
   by_cases h:i<0
   ·simp only[h,Za7]<;>lia
   ·simp only[h,ZaT]<;>lia
 ·cases hi with
  |none=>simp[sliceBounds,HT.sIx]
  |some i=>
   simp only[sliceBounds,HT.sIx,Option.getD_none,show(1:Int)>0 by decide,Za7]
   by_cases h:i<0
   ·simp only[h,Za7]<;>lia
   ·simp only[h,ZaT]<;>lia
theorem yg(its:List Value)(lo hi:Option Int):slicePick its.toArray lo hi none=((its.drop (HT.sIx its.length 0 lo)).take (HT.sIx its.length its.length hi-HT.sIx its.length 0 lo)).toArray:=by
 obtain⟨h1,h2,h3⟩:=zB lo hi its.toArray.size;unfold slicePick;rw[h1,h2,h3];simp only[sliceRange_one,pick_run,List.size_toArray]<;>rfl
def Tt(K:Frag):V->Option Int->Option Int->Hp->VK->Prop:=λx lo hi H Q=>∃ a xs,x=.ref a/\SqL K H a xs/\∀ p,H p=none->Q (.ref p) (upd H p (.lst (zy xs lo hi)))
theorem zE:SlR X (Tt X.K):=by
 intro pins s σ H x v vl vu lo hi sl Q I rx hs pl pu h;obtain⟨a,xs,rfl,hx,q⟩:=h;cases rx;obtain⟨its,r,ht,hz⟩:=I.list hx;have hlen:=r.length;refine⟨"list",_,slot_list_getitem.lookup,ht.isList.typeIs,?_⟩;refine wpAny_getItem_list_slice ht.isList hs pl pu .none (by simp) ?_ (by rw[List.size_toArray]<;>lia)
 rw[yg,<-hlen];refine⟨.ref s.heap.objs.size,_,I.laid (t':=s.toks) (o:=.lst (zy xs lo hi)) (λb ob q=>Zaf _ q) (Zag _) ?_,rfl,q _ (I.hok.fresh (Zag _))⟩;exact⟨ZaC (uZ xs lo hi) hz,_,0,(r.drop (HT.sIx xs.length 0 lo)).take (HT.sIx xs.length xs.length hi-HT.sIx xs.length 0 lo),Zau _ rfl⟩
def UW:V->Bool
 |.non=>true
 |.bl _=>true
 |.int _=>true
 |.str _=>true
 |_=>false
def eqV:V->V->Bool
 |.non,.non=>true
 |.bl a,.bl b=>a==b
 |.bl a,.int b=>(if a then 1 else 0)==b
 |.int a,.bl b=>a==(if b then 1 else 0)
 |.int a,.int b=>a==b
 |.str a,.str b=>a==b
 |_,_=>false
theorem nu:qQ X (.type "list") (λxs H Q=>∃ p ys,xs=[.ref p]/\(SqL X.K H p ys\/SqT X.K H p ys)/\∀ l,H l=none->Q (.ref l) (upd H l (.lst ys))):=by
 intro pins s σ H xs us Q I r h;obtain⟨p,ys,rfl,hq,q⟩:=h;obtain⟨u,rfl,rx⟩:=vals1 r;cases rx;have fin:∀ (its:List Value),Vals ys its->ys.length<=sizeLine->∀ (h':Heap) (c':Nat),(∀ b o',s.heap.get? b=some o'->h'.get? b=some o') ->
   h'.get? s.heap.objs.size=some { cls:=.type "list",dict:=none,data:=.seq its.toArray c',slots:=#[] }->EP X pins σ Q (.ref s.heap.objs.size) { s with heap:=h' }:=λits r' hz h' c' kp e=>
  ⟨.ref s.heap.objs.size,_,I.laid (t':=s.toks) kp (Zag _) (show d8 X.prog X.w _ h' _ (.lst ys) from⟨hz,its,c',r',e⟩),rfl,q _ (I.hok.fresh (Zag _))⟩
 rcases hq with hq|hq
 ·obtain⟨its,r',pl,hz⟩:=I.list hq;have hlen:=r'.length;obtain⟨o,ho,hc,n,hd⟩:=pl.isList;exact call_list_seq p (.inl rfl) ho hc hd (λh' c' kp e=>fin its r' hz h' c' kp e) (by simp only[List.size_toArray]<;>omega)
 ·obtain⟨its,r',pl,hz⟩:=I.tuple hq;have hlen:=r'.length;obtain⟨o,ho,hc,n,hd⟩:=pl;exact call_list_seq p (.inr rfl) ho hc hd (λh' c' kp e=>fin its r' hz h' c' kp e) (by simp only[List.size_toArray]<;>omega)
theorem iI:qQ X (.type "tuple") (λxs H Q=>∃ p ys,xs=[.ref p]/\((SqL X.K H p ys/\∀ l,H l=none->Q (.ref l) (upd H l (.tup ys)))\/(SqT X.K H p ys/\Q (.ref p) H))):=by
 intro pins s σ H xs us Q I r h;obtain⟨p,ys,rfl,h⟩:=h;obtain⟨u,rfl,rx⟩:=vals1 r;cases rx;rcases h with⟨hq,q⟩|⟨hq,q⟩
 ·obtain⟨its,r',pl,hz⟩:=I.list hq;have hlen:=r'.length;refine call_tuple_list pl.isList (λh' kp=>?_) (by simp only[List.size_toArray]<;>omega)
  have I1:Inv X pins σ H { s with heap:=h' }:=I.kept (t':=s.toks) kp;have I2:Inv X pins σ (upd H h'.objs.size (.tup ys)) { s with heap:=h'.push { cls:=.type "tuple",data:=.seq its.toArray } }:=
   I1.laid (t':=s.toks) (λb o e=>Zaf _ e) (Zag _) (show d8 X.prog X.w _ _ _ (.tup ys) from⟨hz,its,r',gC.new _ _⟩)
  exact⟨.ref h'.objs.size,_,I2,rfl,q _ (I1.hok.fresh (Zag _))⟩
 ·obtain⟨its,r',pl,hz⟩:=I.tuple hq;exact call_tuple_same pl ⟨.ref p,H,I,rfl,q⟩
def tyV(K:Frag)(T:String)(x:V)(H:Hp):Prop:=match x with
 |.str _=>T="str"
 |.int _=>T="int"
 |.ref p=>(T="list"/\∃ xs,SqL K H p xs)\/(T="tuple"/\∃ o,K.lookup p=some o/\o.cls=.type "tuple"/\o.dict=none) \/
   (T="dict"/\((∃ kvs,H p=some (.dK kvs))\/∃ kvs,H p=some (.dT kvs)))\/(T="set"/\∃ S n,H p=some (.set S n))
 |_=>False
theorem Rv{pins:List (Addr×Obj)}{σ:St}{H:Hp}{s:Shared}{T:String}{x:V}{v:Value}(I:Inv X pins σ H s)(r:RelV x v)(ty:tyV X.K T x H) :
  s.TypeIs v T/\∀ a,v=.ref a->∃ ob,s.heap.get? a=some ob/\ob.dict=none:=by
 cases x with
 |str z=>
  obtain⟨t,rfl⟩:=r;cases (show T="str" from ty);exact⟨typeIs_str s z t,λ_ e=>nomatch e⟩
 |int i=>
  obtain⟨t,rfl⟩:=r;cases (show T="int" from ty);exact⟨typeIs_int s i t,λ_ e=>nomatch e⟩
 |ref p=>
  cases r;rcases ty with⟨rfl,xs,hq⟩|⟨rfl,o,hk,hc,hd⟩|⟨rfl,hk⟩|⟨rfl,S,n,hk⟩
  ·obtain⟨its,_,pl,_⟩:=I.list hq;refine⟨pl.isList.typeIs,λa e=>?_⟩;cases e;obtain⟨o,n,e,c,hd,_⟩:=pl;exact⟨o,e,hd⟩
  ·refine⟨⟨o,I.kIn p o hk,hc⟩,λa e=>?_⟩;cases e;exact⟨o,I.kIn _ o hk,hd⟩
  ·have z:∃ o,s.heap.get? p=some o/\o.ExactDict:=by
    rcases hk with⟨kvs,hk⟩|⟨kvs,hk⟩
    ·obtain⟨_,_,_,_,o,_,_,e,ex,_⟩:=I.hok p _ hk;exact⟨o,e,ex⟩
    ·obtain⟨_,_,_,_,o,_,_,e,ex,_⟩:=I.hok p _ hk;exact⟨o,e,ex⟩
   obtain⟨o,e,ex⟩:=z;refine⟨⟨o,e,ex.1⟩,λa e2=>?_⟩;cases e2;exact⟨o,e,ex.2.1⟩
  ·obtain⟨o,_,_,_,e,ex,_⟩:=I.hok p _ hk;refine⟨⟨o,e,ex.1⟩,λa e2=>?_⟩;cases e2;exact⟨o,e,ex.2.1⟩
 |_=>exact False.elim ty
def tBM(K:Frag)(T:String)(r:V->List V->Hp->VK->Prop)(to:TE)(t:TA):TE:=λσ H Q=>to σ H λx H1=>tyV K T x H1/\t σ H1 λxs H2=>r x xs H2 Q
variable{o e:Expr}{es:List Expr}{to:TE}{t:TA}{name:Str}{apos cpos:Pos}{T id:String}{r:V->List V->Hp->VK->Prop}
theorem mz(pa:PlainAttrs T)(slot:Slot T name id)(hty:typeOf (.builtin id)=pure (.type "method_descriptor"))(hm:MtR X id r)(ho:PE X o to)(ha:PA X (e::es) t)
  (hbase:attributeBase o name X.env (eval o X.env)=eval o X.env:=by rfl)
  (hfew:((backTo cpos (starEach (e::es) X.env)).all (λx=>!x.1)&&(backToKw cpos (keywordEach [] X.env)).all (λx=>x.1.isSome)
   && decide ((e::es).length+([]:List Keyword).length+(if([]:List Keyword).isEmpty then 0 else 1)<30))=true:=by rfl)
  (hline:(apos.endLine==cpos.line)=true:=by rfl)(hs:starEach (e::es) X.env=(false,eval e X.env)::starEach es X.env:=by rfl)(hplain:(backTo cpos (starEach es X.env)).any (·.1)=false:=by rfl) :
  PE X (.Call (.Attribute o name apos) (e::es) [] cpos) (tBM X.K T r to t):=by
 intro pins s σ H Q I h;refine wpAny_Call_method_late hbase hfew hline rfl (thn (ho pins s σ H _ I h) ?_);rintro v s1 ⟨x,H1,I1,r1,ty,q1⟩;obtain⟨h1,h2⟩:=Rv I1 r1 ty;refine⟨T,id,pa,slot,hty,h1,h2,?_⟩;have hA:=ha cpos pins s1 σ H1 _ I1 q1;rw[hs] at hA ⊢;refine Calls.callWith_builtin (by show(false||(backTo cpos (starEach es X.env)).any (·.1))=false;rw[hplain]<;>rfl) (Calls.evalArgs_plain ?_)
 exact thn hA λus s2 ⟨vs,H2,I2,r2,q2⟩=>hm pins s2 σ H2 x vs v us Q I2 r1 r2 q2
end
def MtM(X:Cx)(id:String)(r:V->List V->Hp->VK->Prop):Prop:=
 ∀ (pins:List (Addr×Obj)) (s:Shared) (σ:St) (H:Hp) (x:V) (xs:List V) (v:Value) (us:List Value) (Q:VK),Inv X pins σ H s->RelV x v->Vals xs us->r x xs H Q ->
  wpAny (model X.prog X.w) X.A (call (.builtin id) (v::us)) (EP X pins σ Q) X.xe s
theorem Vals.one:∀ {x:V}{us:List Value},Vals [x] us->∃ u,us=[u]/\RelV x u
 |_,_,.cons r .nil=>⟨_,rfl,r⟩
theorem Vals.two:∀ {x y:V}{us:List Value},Vals [x,y] us->∃ u v,us=[u,v]/\RelV x u/\RelV y v
 |_,_,_,.cons r (.cons q .nil)=>⟨_,_,rfl,r,q⟩
section
variable{X:Cx}{pins:List (Addr×Obj)}{σ:St}{H:Hp}{s:Shared}{l:Addr}{xs ys:List V}
theorem Inv.Uv{its its':List Value}{n:Nat}{f:Array Value->Array Value}{t':Nat}(I:Inv X pins σ H s)(hH:H l=some (.lst xs))
  (e:s.heap.get? l=some { cls:=.type "list",data:=.seq its.toArray n })(hf:f its.toArray=its'.toArray)(hv:Vals ys its')(hz:ys.length<=sizeLine) :
  Inv X pins σ (upd H l (.lst ys)) { s with heap:=s.heap.update l (Obj.mapSeq f),toks:=t' }:=by
 have q:=PySem.IsL.update e f;rw[hf] at q;refine I.write (x:=l) (e:=l) (by rw[hH];exact trivial) (.inl rfl) (λb' u hb hu=>(Heap.get?_update_other s.heap (Obj.mapSeq f) (Za0 hb)).trans hu) ⟨_,q⟩ ?_
 exact⟨hz,its',_,hv,q⟩
theorem Inv.Uw(I:Inv X pins σ H s)(hH:H l=some (.lst xs)):xs.length<=sizeLine/\∃ (its:List Value) (n:Nat),Vals xs its/\xs.length=its.length/\s.heap.get? l=some { cls:=.type "list",data:=.seq its.toArray n }:=by
 obtain⟨z,its,n,r,e⟩:=I.hok l _ hH;exact⟨z,its,n,r,r.length,e⟩
end
section
variable{X:Cx}
def Hh:V->List V->Hp->VK->Prop:=λx vs H Q=>∃ l xs y,x=.ref l/\vs=[y]/\H l=some (.lst xs)/\xs.length<sizeLine/\Q .non (upd H l (.lst (xs++[y])))
theorem dH:MtM X "list.append" Hh:=by
 intro pins s σ H x vs v us Q I rx rv h;obtain⟨l,xs,y,rfl,rfl,hH,hz,q⟩:=h;cases rx;obtain⟨u,rfl,ru⟩:=rv.one;obtain⟨z,its,n,r,hl,e⟩:=I.Uw hH;refine call_meets F.slot_list_append ⟨_,e,rfl⟩ F.entry_list_append (F.args_list_append_2 _ _) (PySem.list_append l its.toArray n u (by rw[List.size_toArray];lia)) ⟨e,?_⟩
 refine⟨.non,_,I.Uv (its':=its++[u]) hH e (by simp) (r.append (.cons ru .nil)) ?_,rfl,q⟩
 rw[List.length_append,List.length_singleton];lia
end
end L2
namespace Att
open PySem PySem.W PySem.Calls PyProof.Rows
theorem vB{P:Params}{h:Heap}:∀ (ns:List Int) (vs:List Value),WellAll P h vs (ns.map WData.int)->IntsAre vs ns:=by
 intro ns;induction ns with
 |nil=>
  intro vs w;rw[List.map_nil] at w;cases w;exact .nil
 |cons n ns ih=>
  intro vs w;rw[Zai] at w;cases w with
  |cons a b=>
   cases a;exact .cons _ _ (ih _ b)
theorem Je{l:OpenLaw}{n:Nat}(hn:l.most=some n){P:Params}{h:Heap}{args:List WData}{vals:List Value}
  (hpre:l.row.toRowW.claim.pre args=true)(hwl:WellAll P h vals args) :
  ∃ a vs ns,vals=[Value.ref a]/\args=[WData.list (ns.map WData.int)]/\h.get? a=some { cls:=.type "list",data:=.seq vs.toArray }/\IntsAre vs ns/\ns.length<=n:=by
 have hsh:WShape.hasAll [] args [.list .int]=true:=(pre_splitW hpre).1;have hc:l.pre.holds [] { args:=args }=true:=(pre_splitW hpre).2;obtain⟨d,r,rfl,h1,h2⟩:=hasAllW_cons hsh;obtain rfl:=hasAllW_nil h2;obtain⟨xs,rfl,h3⟩:=hasW_list h1;obtain⟨ns,rfl⟩:=items_int h3;have hlen:ns.length<=n:=by
  unfold OpenLaw.pre at hc;have h4:(WTm.not (.lt (.lit (.int (n:Int))) (.len (.arg 0)))).holds [] { args:=[.list (ns.map .int)] }=true:=by
   have h4:=(holds_andW hc).1;rw[hn] at h4;exact h4
  have h5:=condW_of h4 (w_not (w_lt w_lit (w_len_list (w_arg rfl))));rw[List.length_map] at h5;refine Nat.le_of_not_lt λq=>?_;have q':(n:Int)<((ns.length:Nat):Int):=by omega
  first
   |(rw[ZaK q'] at h5;exact absurd h5 (by decide))
   |(simp at h5;omega)
 cases hwl with
 |cons w1 w2=>
  cases w2;cases w1 with
  |list ho hall=>exact⟨_,_,ns,rfl,rfl,ho,vB ns _ hall,hlen⟩
theorem Jf(l:OpenLaw)(args:List WData):l.row.toRowW.claim.post args (.bool true) args=true:=
 postW_of (r:=l.row.toRowW) (X:=(true==true))
  (show WShape.has [] (.bool true) .bool=true by first|rfl|decide|simp[WShape.has,WShape.arms,WShape.armsAll])
  (show(WTm.eq .res (.lit (.bool true))).value [] { args:=args,res:=some (.bool true),after:=args }=some (.bool (true==true)) from w_eq_bool (w_res rfl) w_lit) rfl
theorem BP{l:OpenLaw}{n:Nat}{q:Program}{loose:List Str}{XP:(Str->Option Value)->Heap->Prop}{YP:World->Heap->Prop}{d:DefRec}
  (hn:l.most=some n)(hdf:d.params.defaults=[])
  (call:∀ (w:World) (s₀ s₁:Shared) (mg mb:Str->Option Value) (fa:Addr) (o:Obj) (pm cd doc:Value) (a:Addr) (vs:List Value) (ns:List Int),
   Ground q loose [] XP w s₀ mg mb s₁.heap->YP w s₁.heap ->
   s₁.heap.get? fa=some o->o.data=.func (docDef d.name d.params d.body d.scope pm cd doc)->s₁.heap.CodeRec cd d.name->mg d.name=some (.ref fa) ->
   s₁.heap.get? a=some { cls:=.type "list",data:=.seq vs.toArray }->IntsAre vs ns->ns.length<=n->s₁.gens=#[] ->
   codeAny (model l.prog w) callerA (.call (.ref fa) ⟨[.ref a],[]⟩) (λr s'=>r=.ok (.ret (.bool true))/\OldK s₁.heap s'.heap/\s'.os=s₁.os/\AllBare s'.gens) s₁) :
  WalkO q loose XP YP l.row.toRowW d [] (λf vs=>PySem.call f vs):=by
 intro w s₀ s₁ mg mb G Y fa o pm cd doc dV kV ho hd hcd hD hmg hg args vals as hpre hlay hrd hwl hlo;obtain rfl:dV=.none:=Dflts.none hD hdf;obtain rfl:kV=.none:=Dflts.noKw hD;obtain⟨a,vs,ns,rfl,rfl,hobj,hints,hlen⟩:=Je hn hpre hwl;refine enter_call (codeAny_mono (call w s₀ s₁ mg mb fa o pm cd doc a vs ns G Y ho (fd_plain hd) hcd hmg hobj hints hlen hg) λr s' hq=>?_);obtain⟨rfl,h2,h3,h4⟩:=hq;exact⟨.inl ⟨.bool true,.bool true,[],rfl,λ_=>rfl,.bool true,Jf l _,λ_=>⟨List.Pairwise.nil,λ_ hm=>(nomatch hm)⟩⟩,h2,h3,h4⟩
end Att
namespace L2
open PySem PySem.Spec PyProof.Rows
theorem uA:∀ {vs:List Value}{ns:List Int},IntsAre vs ns->Vals (ns.map V.int) vs
 |_,_,.nil=>.nil
 |_,_,.cons n t h=>.cons ⟨t,rfl⟩ (uA h)
def Only(H:Hp):Prop:=∀ b,H b=none\/∃ o xs,H b=some (.frz o (.lst xs))
theorem Ku{P:Program}{w:World}{K:Frag}{mg mb:Str->Option Value}{CX:CXT}{k:Nat}{fa a:Addr}{fd:FuncData}{x:Str}{sp:Sp}{s₁:Shared}{vs:List Value}{ns:List Int}
  (KX:K.In s₁.heap)(hns:s₁.heap.Ns mainGlobals mg)(hb:s₁.heap.Ns builtinsNs mb)(hbb:∀ x:Str,x≠"__name__"->mb x=bootBuiltins x)(hlim:s₁.heap.NoLimit)(hg:s₁.gens=#[])
  (ha:s₁.heap.get? a=some { cls:=.type "list",data:=.seq vs.toArray })(hi:IntsAre vs ns)(hl:ns.length<=sizeLine)(hr:fX k callerA)
  (F:∀ base:Heap,K.In base->base.Ns mainGlobals mg->yf P w K mg base CX k fa fd [x] sp)(hbind:∀ (s:Shared) (u:Value),BindsTo s fd ⟨[u],[]⟩ [(x,u)])
  (hsp:∀ H:Hp,Only H->SqL K H a (ns.map V.int)->sp [.ref a] H (λv _=>v=.bl true) λ_ _ _=>False)
  (hCX:∀ H e s',CX [] H s₁ (λ_ _ _=>False) e s'->False) :
  codeAny (model P w) callerA (.call (.ref fa) ⟨[.ref a],[]⟩) (λr s'=>r=.ok (.ret (.bool true))/\OldK s₁.heap s'.heap/\s'.os=s₁.os/\AllBare s'.gens) s₁:=by
 have rv:=uA hi;have lenV:=hi.length;have core:∀ H:Hp,Only H->SqL K H a (ns.map V.int)->HOk P w H s₁.heap->(∀ b,H b≠none->b=a)->(H a≠none->K.lookup a=none) ->
   codeAny (model P w) callerA (.call (.ref fa) ⟨[.ref a],[]⟩) (λr s'=>r=.ok (.ret (.bool true))/\OldK s₁.heap s'.heap/\s'.os=s₁.os/\AllBare s'.gens) s₁:=by
  intro H hO hS hok hA hK;have base_of:∀ {b:Addr}{o:Obj},s₁.heap.get? b=some o->H b=none->(zp s₁.heap H).get? b=some o:=λe n=>Kf e n;have noA:∀ {b:Addr}{o:Obj}{es:Array DictEntry}{ep:Nat},s₁.heap.get? b=some o->o.data=.dict es ep->H b=none:=λ{b o es ep} e d=>by
   cases q:H b with
   |none=>rfl
   |some u=>
    have e':b=a:=hA b (by rw[q];simp)
    subst e';rw[ha] at e;cases e;have d':Data.seq vs.toArray _=Data.dict es ep:=d;cases d'
  have nsK:∀ {b:Addr}{m:Str->Option Value},s₁.heap.Ns b m->(zp s₁.heap H).Ns b m:=λ{b m} ⟨o,es,ep,e,d,r⟩=>⟨o,es,ep,base_of e (noA e d),d,r⟩;have hKb:K.In (zp s₁.heap H):=λb o e=>base_of (KX b o e) (by
   cases q:H b with
   |none=>rfl
   |some u=>
    have e':b=a:=hA b (by rw[q];simp)
    subst e';rw[hK (by rw[q];simp)] at e;cases e)
  have hM:Mod K mg (zp s₁.heap H):=⟨hKb,nsK hns,⟨mb,nsK hb,hbb⟩,let⟨mc,h1,h2⟩:=hlim;⟨mc,nsK h1,h2⟩⟩;have e0:NK P w K mg (zp s₁.heap H) callerA [] s₁ H:=⟨rfl,hM,λb o e=>Nr e,Nat.le_of_eq (IK _ _),trivial,λb hb=>absurd (show b∈([]:List Addr) from hb) (by simp),hok,.of_eq hg⟩
  refine codeAny_mono ((F _ hKb (nsK hns)).run callerA [] s₁ H ⟨[.ref a],[]⟩ [.ref a] [.ref a] _ _ hr e0 (hbind s₁ (.ref a)) (.cons rfl .nil) (hsp H hO hS)) λr s' h=>?_;cases r with
  |error e=>exact(hCX H e s' h).elim
  |ok fl=>
   cases fl with
   |next=>exact False.elim h
   |brk=>exact False.elim h
   |cont=>exact False.elim h
   |ret u=>
    obtain⟨v,H',os,bare,un,hok',r',q⟩:=h;have q':v=.bl true:=q;subst q';obtain rfl:u=Value.bool true:=r';refine⟨rfl,OldK.of_keep λb o e=>?_,os,bare⟩;cases q:H b with
    |none=>exact un.keep b o e q (by intro z;exact absurd (show b∈([]:List Addr) from z) (by simp)) (by simp)
    |some u=>
     rcases hO b with z|⟨ob,xs,z⟩
     ·rw[q] at z;cases z
     ·have z2:=un.frzs b ob _ z;obtain⟨e1,_⟩:=hok b _ z;obtain⟨e2,_⟩:=hok' b _ z2;rw[e] at e1;cases e1;exact e2
 cases hk:K.lookup a with
 |some o=>
  have e:=KX a o hk;rw[ha] at e;cases e;refine core (λ_=>none) (λ_=>.inl rfl) (.inr ⟨_,vs.toArray,_,hk,rfl,rfl,rfl,by rw[List.size_toArray,lenV];exact hl,by simpa using rv⟩) (λb u z=>by have z':(none:Option HO)=some u:=z;cases z') (λb z=>absurd rfl z) λz=>absurd rfl z
 |none=>
  refine core (λb=>if b=a then some (.frz { cls:=.type "list",data:=.seq vs.toArray } (.lst (ns.map V.int))) else none) (λb=>?_) (.inl (.inr ⟨{ cls:=.type "list",data:=.seq vs.toArray },Zan rfl⟩)) (λb u z=>?_) (λb z=>?_) λ_=>hk
  ·by_cases hb:b=a
   ·exact .inr ⟨_,_,Zan hb⟩
   ·exact .inl (Zap hb)
  ·by_cases hb:b=a
   ·have z':=(Zan hb).symm.trans z;cases z';subst hb;exact⟨ha,by rw[List.length_map];exact hl,vs,_,rv,ha⟩
   ·have z':=(Zap hb).symm.trans z;cases z'
  ·by_cases hb:b=a
   ·exact hb
   ·exact absurd (Zap hb) z
theorem N6{l:PySem.W.OpenLaw}{n k:Nat}{q:Program}{loose:List Str}{XP:(Str->Option Value)->Heap->Prop}{YP:World->Heap->Prop}{d:DefRec}{K:Params->Frag}{CX:World->CXT}{sp:World->Sp}{x:Str}
  (hn:l.most=some n)(hn2:n<=sizeLine)(hdf:d.params.defaults=[])(hr:fX k callerA)
  (hY:∀ (w:World) (h:Heap),YP w h->(K w.params).In h)
  (F:∀ (w:World) (mg:Str->Option Value) (fa:Addr) (h:Heap),(K w.params).In h->h.Ns mainGlobals mg->mg d.name=some (.ref fa) ->
   ∃ fd:FuncData,(∀ (s:Shared) (u:Value),BindsTo s fd ⟨[u],[]⟩ [(x,u)]) /\
    ∀ base:Heap,(K w.params).In base->base.Ns mainGlobals mg->yf l.prog w (K w.params) mg base (CX w) k fa fd [x] (sp w))
  (hsp:∀ (w:World) (H:Hp) (a:Addr) (ns:List Int),ns.length<=n->Only H->SqL (K w.params) H a (ns.map V.int)->sp w [.ref a] H (λv _=>v=.bl true) λ_ _ _=>False)
  (hCX:∀ (w:World) (H:Hp) (s:Shared) (e:Value) (s':Shared),CX w [] H s (λ_ _ _=>False) e s'->False) :
  PySem.W.WalkO q loose XP YP l.row.toRowW d [] (λf vs=>PySem.call f vs):=by
 refine Att.BP hn hdf λw s₀ s₁ mg mb fa o pm cd doc a vs ns G Y ho hd hcd hmg hobj hints hlen hg=>?_;have KX:=hY w _ Y;obtain⟨fd,hb,hF⟩:=F w mg fa _ KX G.T.g hmg;exact Ku KX G.T.g G.T.b G.T.builtins G.T.nolimit hg hobj hints (ZaC hlen hn2) hr hF hb (λH hO hS=>hsp w H a ns hlen hO hS) λH e s'=>hCX w H s₁ e s'
def bx(s:Stmt):Arguments:=match s with
 |.FunctionDef _ a _ _ _ _ _ _ _ _=>a
 |_=>{ posonlyargs:=[],args:=[],vararg:=none,kwonlyargs:=[],kw_defaults:=[],kwarg:=none,defaults:=[] }
def bh(s:Stmt):List Stmt:=match s with
 |.FunctionDef _ _ b _ _ _ _ _ _ _=>b
 |_=>[]
def aL(s:Stmt):Scope:=match s with
 |.FunctionDef _ _ _ _ _ _ sc _ _ _=>sc
 |_=>{ kind:=.function,names:=[],isGenerator:=false,isCoroutine:=false }
noncomputable abbrev CX0:CXT:=λ_ _ _ _ _ _=>False
noncomputable abbrev E0:XK:=λ_ _ _=>False
theorem Tu{X:Cx}:Fj CX0 X E0:=λ_ _ _ _ _ _ _ h=>h.elim
structure Fun(K:Frag)(x qual:Str)(st:Stmt)(f:Addr)(fd:FuncData):Prop where
 ex:∃ (oc:Value) (od:Option Addr) (kV doc pm:Value) (an:Option Addr) (cdv ct:Value) (osl:Array (Option Value)),
  fd=fnOf x qual (bx st) (bh st) (aL st) .none kV doc pm an cdv ct/\K.lookup f=some ⟨oc,od,.func fd,osl⟩/\codeIn K cdv qual=true
 kp:keepIn K (.ref f)=true
section
variable{P:Program}{w:World}{K:Frag}{mg:Str->Option Value}{base:Heap}
theorem Fun.ok{x qual:Str}{st:Stmt}{f:Addr}{fd:FuncData}{N ps:List Str}{k:Nat}{sp:Sp}(F:Fun K x qual st f fd)(S:bB N ps (aL st))(len:∀ vs H Q E,sp vs H Q E->vs.length=ps.length)
  (hbody:∀ (cdv:Value) (A:Around) (outer:List Env) (s:Shared) (H:Hp) (vs:List V) (Q:VK) (E:XK),fX k (A.deeper (envOfC qual (aL st) s.heap.objs.size f cdv))->sp vs H Q E ->
   ∃ t,PSs (Fl CX0 P w K mg base N qual (aL st) f cdv A outer s H E).nox (bh st) t/\t { nx:=λ_ H'=>Q .non H',rt:=Q } (start N vs) H):yf P w K mg base CX0 (k+1) f fd ps sp:=by
 obtain⟨oc,od,kV,doc,pm,an,cdv,ct,osl,rfl,lk,hcd⟩:=F.ex;refine Tj lk hcd S len λA outer s H vs Q E hr hsp=>?_;obtain⟨t,h,q⟩:=hbody cdv A outer s H vs Q E hr hsp;exact⟨t,h.nox,q⟩
theorem Fun.binds{x qual:Str}{st:Stmt}{f:Addr}{fd:FuncData}{ps:List Str}(F:Fun K x qual st f fd)
  (h:∀ (kV doc pm:Value) (an:Option Addr) (cdv ct:Value) (us:List Value),us.length=ps.length->bindArgs (fnOf x qual (bx st) (bh st) (aL st) .none kV doc pm an cdv ct) ⟨us,[]⟩=pure (ps.zip us)):Binds K fd ps []:=by
 obtain⟨oc,od,kV,doc,pm,an,cdv,ct,osl,rfl,lk,hcd⟩:=F.ex;exact .all (h kV doc pm an cdv ct)
theorem bV{x qual:Str}{st:Stmt}{f:Addr}{oc:Value}{od an:Option Addr}{osl:Array (Option Value)}{kV doc pm cdv ct:Value}(l:K.lookup f=some ⟨oc,od,.func (fnOf x qual (bx st) (bh st) (aL st) .none kV doc pm an cdv ct),osl⟩)
  (c:codeIn K cdv qual=true)(k:keepIn K (.ref f)=true):Fun K x qual st f (fnOf x qual (bx st) (bh st) (aL st) .none kV doc pm an cdv ct):=⟨⟨oc,od,kV,doc,pm,an,cdv,ct,osl,rfl,l,c⟩,k⟩
end
theorem tD{A:Around}{k:Nat}(hr:fX k A):A.units+1<cLine:=Nat.lt_of_le_of_lt (Nat.add_le_add_left (by decide:1<=64) _) hr.units
theorem bK{n:Nat}(h:n<=1000):n<sizeLine:=Nat.lt_of_le_of_lt h (by decide)
section
variable{X:Cx}
theorem pv(i:Nat){x:Str}{pos:Pos}(hN:X.N[i]?=some x:=by rfl)(hv:Vis X.env.scope x:=by first|exact Or.inl rfl|exact Or.inr (Or.inl rfl)|exact Or.inr (Or.inr rfl))(hd:(x==("__debug__":Str))=false:=by decide)
  (hcd:(x==("__classdict__":Str))=false:=by decide):PE X (.Name x pos) (o9 i):=Ez hN hv hd hcd
end
theorem jo{c A B:Prop}[Decidable c](h1:c->A)(h2:¬c->B):if c then A else B:=by
 by_cases h:c
 ·rw[Zan h];exact h1 h
 ·rw[Zap h];exact h2 h
def bf(H H':Hp):Prop:=∀ b o,H b=some o->H' b=some o
theorem bf.refl(H:Hp):bf H H:=λ_ _ h=>h
theorem bf.trans{H H1 H2:Hp}(a:bf H H1)(b:bf H1 H2):bf H H2:=λc o h=>b c o (a c o h)
theorem bf.free{H H':Hp}(e:bf H H'){l:Addr}(h:H' l=Option.none):H l=Option.none:=by
 cases q:H l with
 |none=>rfl
 |some o=>
  rw[e l o q] at h;cases h
theorem bf.seq{K:Frag}{H H':Hp}{a:Addr}{xs:List V}(e:bf H H')(h:SqL K H a xs):SqL K H' a xs:=by
 rcases h with(h|⟨o,h⟩)|h
 ·exact .inl (.inl (e _ _ h))
 ·exact .inl (.inr ⟨o,e _ _ h⟩)
 ·exact .inr h
end L2
set_option maxHeartbeats 4000000
namespace Mth
def num:List Bool->Nat
 |[]=>0
 |b::r=>b.toNat+2*num r
def sub(l m:List Bool):Bool:=(List.range l.length).all λi=>!l.getD i false||m.getD i false
theorem vN:∀ {l m:List Bool},l.length=m.length->num l=num m->l=m
 |[],[],_,_=>rfl
 |[],_::_,h,_=>by simp at h
 |_::_,[],h,_=>by simp at h
 |a::l,b::m,h,e=>by
  have e':a.toNat+2*num l=b.toNat+2*num m:=e;have hh:a=b/\num l=num m:=by cases a<;>cases b<;>simp at e' ⊢<;>omega
  rw[hh.1,vN (by simpa using h) hh.2]
theorem N7(n p:Nat):(n/2^p) &&& 1=(n.testBit p).toNat:=by
 have h:=Nat.testBit_eq_decide_div_mod_eq (x:=n) (i:=p);rw[Nat.and_one_is_mod,h];by_cases e:n/2^p%2=1
 ·simp[e]
 ·have:n/2^p%2=0:=by omega
  simp[this]
def pl(W:Nat)(c:Int×Int):Nat:=c.2.toNat*W+c.1.toNat
def cellOf(W:Nat)(i:Nat):Int×Int:=(((i%W:Nat):Int),((i/W:Nat):Int))
def vC(W:Nat)(ps:List (Int×Int)):Nat:=ps.foldl (λn c=>n ||| 2^pl W c) 0
theorem BR(W:Nat):∀ (ps:List (Int×Int)) (n i:Nat),(ps.foldl (λn c=>n ||| 2^pl W c) n).testBit i=(n.testBit i||decide (∃ c∈ps,pl W c=i))
 |[],n,i=>by simp
 |c::ps,n,i=>by
  rw[List.foldl_cons,BR W ps,Nat.testBit_or,Nat.testBit_two_pow,Bool.or_assoc];congr 1
  rw[Bool.eq_iff_iff];simp
theorem N8(W:Nat)(ps:List (Int×Int))(i:Nat):(vC W ps).testBit i=decide (∃ c∈ps,pl W c=i):=by
 unfold vC;rw[BR];simp
theorem yH(W:Nat)(ps:List (Int×Int))(c:Int×Int):vC W (ps++[c])=vC W ps ||| 2^pl W c:=by
 unfold vC;rw[List.foldl_append];rfl
end Mth
namespace L2
open PySem PySem.Spec PyProof.Rows
theorem rT{env:Env}:∀ (names:List (Str×NameKind)) (cs:List (Str×Addr)),(∀ x∈names,x.2=.free->∃ c,env.cells.lookup x.1=some c) ->
  (∀ x c,cs.lookup x=some c->env.cells.lookup x=some c) ->
  ∃ cl,(forIn names cs λx s=>if(x.snd==NameKind.free)=true then do let d <-cellOf env x.fst;pure (ForInStep.yield ((x.fst,d)::s)) else pure (ForInStep.yield s):Sem _)=pure cl /\
   (∀ x c,cl.lookup x=some c->env.cells.lookup x=some c)/\(∀ x c,cs.lookup x=some c->cl.lookup x=some c)/\∀ x,(x,NameKind.free)∈names->∃ c,cl.lookup x=some c
 |[],cs,_,h2=>⟨cs,rfl,h2,λ_ _ e=>e,λ_ h=>nomatch h⟩
 |(n,k)::r,cs,h1,h2=>by
  rw[List.forIn_cons];by_cases hk:k=.free
  ·subst hk;obtain⟨c,hc⟩:=h1 (n,.free) List.mem_cons_self rfl;have ec:cellOf env n=pure c:=by unfold cellOf;simp only[hc]
   obtain⟨cl,e,p1,p2,p3⟩:=rT r ((n,c)::cs) (λx hx=>h1 x (List.mem_cons_of_mem _ hx)) (λx d e=>by
    rw[List.lookup_cons] at e;by_cases hx:x=n
    ·subst hx;simp at e;subst e;exact hc
    ·have hb:(x==n)=false:=beq_eq_false_iff_ne.mpr hx;rw[hb] at e;exact h2 x d e)
   refine⟨cl,?_,p1,λx d e'=>?_,λx hx=>?_⟩
   ·simp only[beq_self_eq_true,Za7,ec];exact e
   ·by_cases hx:x=n
    ·subst hx;have:=h2 _ _ e';rw[hc] at this;cases this;exact p2 x c (by simp)
    ·have hb:(x==n)=false:=beq_eq_false_iff_ne.mpr hx;exact p2 x d (by rw[List.lookup_cons,hb];exact e')
   ·rcases Zao.mp hx with e|hx
    ·cases e;exact⟨c,p2 n c (by simp)⟩
    ·exact p3 x hx
  ·obtain⟨cl,e,p1,p2,p3⟩:=rT r cs (λx hx=>h1 x (List.mem_cons_of_mem _ hx)) h2;have hb:(k==NameKind.free)=false:=by simpa using hk
   refine⟨cl,?_,p1,p2,λx hx=>?_⟩
   ·simp only[hb,Bool.false_eq_true,ZaT];exact e
   ·rcases Zao.mp hx with e|hx
    ·cases e;exact absurd rfl hk
    ·exact p3 x hx
theorem Ft{scope:Scope}{env:Env}(h:∀ x∈scope.names,x.2=.free->∃ c,env.cells.lookup x.1=some c):∃ cl,closureFor scope env=pure cl /\
  (∀ x c,cl.lookup x=some c->env.cells.lookup x=some c)/\∀ x,(x,NameKind.free)∈scope.names->∃ c,cl.lookup x=some c:=by
 obtain⟨cl,e,p1,_,p3⟩:=rT scope.names [] h (λ_ _ e=>nomatch e);refine⟨cl,?_,p1,p3⟩;simp only[closureFor];rw[e];rfl
noncomputable abbrev oA(env:Env)(x:Str×NameKind):Str×NameKind:=if(x.2==NameKind.free&&env.scope.kind==.function&&env.kindOf x.1==some .cell)=true then(x.1,NameKind.cell) else x
theorem Jg(env:Env)(x:Str×NameKind):(oA env x).1=x.1:=by unfold oA;split<;>rfl
theorem tE{env:Env}:∀ (names:List (Str×NameKind)) (x:Str),(names.map (oA env)).lookup x=(names.lookup x).map λk=>(oA env (x,k)).2
 |[],x=>rfl
 |(n,k)::r,x=>by
  rw[Zai];have e1:oA env (n,k)=(n,(oA env (n,k)).2):=by
   have:=Jg env (n,k);cases h:oA env (n,k) with
   |mk a b=>rw[h] at this;cases this;rfl
  rw[e1,List.lookup_cons,List.lookup_cons,tE r x];by_cases hx:x=n
  ·subst hx;simp
  ·have hb:(x==n)=false:=beq_eq_false_iff_ne.mpr hx;rw[hb]
theorem yh(scope:Scope)(env:Env):(relabel scope env).names=scope.names.map (oA env):=by
 unfold relabel;show List.map _ _=_
 refine List.map_congr_left λx _=>?_;obtain⟨n,k⟩:=x;rfl
theorem jU(scope:Scope)(env:Env)(x:Str):(relabel scope env).names.lookup x=(scope.names.lookup x).map λk=>(oA env (x,k)).2:=by
 rw[yh,tE]
theorem jz{scope:Scope}{env:Env}{x:Str}{k:NameKind}(hk:k≠.free)(h:scope.names.lookup x=some k):(relabel scope env).names.lookup x=some k:=by
 rw[jU,h];simp[oA,hk]
theorem tG{scope:Scope}{env:Env}{x:Str}(h:scope.names.lookup x=some .free):(relabel scope env).names.lookup x=some .cell\/(relabel scope env).names.lookup x=some .free:=by
 rw[jU,h];simp only[Zbl,oA];split
 ·exact .inl rfl
 ·exact .inr rfl
theorem Fv{scope:Scope}{env:Env}{x:Str}(h0:scope.names.lookup x≠some .cell)(h:(relabel scope env).names.lookup x=some .cell\/(relabel scope env).names.lookup x=some .free):scope.names.lookup x=some .free:=by
 rw[jU] at h;cases e:scope.names.lookup x with
 |none=>rw[e] at h;simp at h
 |some k=>
  by_cases hk:k=.free
  ·rw[hk]
  ·rw[e] at h;simp[oA,hk] at h;subst h;exact absurd e h0
theorem lookup_mem{β:Type}:∀ {l:List (Str×β)}{x:Str}{v:β},l.lookup x=some v->(x,v)∈l
 |[],_,_,h=>nomatch h
 |(n,k)::r,x,v,h=>by
  rw[List.lookup_cons] at h;by_cases hx:x=n
  ·subst hx;simp at h;subst h;exact List.mem_cons_self
  ·have hb:(x==n)=false:=beq_eq_false_iff_ne.mpr hx;rw[hb] at h;exact List.mem_cons_of_mem _ (lookup_mem h)
noncomputable abbrev Cx.comp(X:Cx)(N:List Str)(scope:Scope)(cl:List (Str×Addr))(C:Addr)(s2:Shared)(H2:Hp)(fp:List Addr):Cx where
 prog:=X.prog
 w:=X.w
 K:=X.K
 mg:=X.mg
 base:=X.base
 A:=X.A
 N:=N
 s₀:=s2
 H₀:=H2
 env:=compEnvC scope cl C X.env
 outer:=X.stack
 stack:=X.stack
 ex:=fp
 fn:=λ_=>false
 calm:=X.calm
 pn:=[]
 xe:=λ_ _=>False
def wC(XN N:List Str)(xs scope:Scope)(fr:List (Option Nat)):Bool:=
 decide (fr.length=N.length)&&(scope.kind==.function)&&(scope.names.all λx=>!(x.2==.cell))&&(scope.names.all λx=>!(x.2==.local)||scope.names.lookup x.1==some .local) &&
 (scope.names.all λx=>!(x.2==.free)||(xs.names.lookup x.1==some .cell||xs.names.lookup x.1==some .free)) &&
 (List.range N.length).all λj=>match fr[j]?,N[j]? with
  |some (some i),some x=>decide (XN[i]?=some x)&&(scope.names.lookup x==some .free)
  |_,_=>true
theorem BV{XN N:List Str}{xs scope:Scope}{fr:List (Option Nat)}(h:wC XN N xs scope fr=true) :
  fr.length=N.length/\scope.kind=.function/\(∀ x∈scope.names,x.2≠.cell)/\(∀ x∈scope.names,x.2=.local->scope.names.lookup x.1=some .local) /\
  (∀ x∈scope.names,x.2=.free->xs.names.lookup x.1=some .cell\/xs.names.lookup x.1=some .free) /\
  ∀ (j i:Nat) (x:Str),fr[j]?=some (some i)->N[j]?=some x->XN[i]?=some x/\scope.names.lookup x=some .free:=by
 unfold wC at h;simp only[Bool.and_eq_true,decide_eq_true_eq,ZaZ] at h;obtain⟨⟨⟨⟨⟨h1,h2⟩,h3⟩,h4⟩,h5⟩,h6⟩:=h;refine⟨h1,by simpa using h2,λx hx=>by simpa using h3 x hx,λx hx e=>?_,λx hx e=>?_,λj i x e1 e2=>?_⟩
 ·have:=h4 x hx;simp[e] at this;exact this
 ·have:=h5 x hx;simp[e] at this;exact this
 ·have hj:j<N.length:=(Zar.mp e2).1;have:=h6 j (ZaS.mpr hj);rw[e1,e2] at this;simpa using this
def frσ(fr:List (Option Nat))(σ:St):St:=fr.map λo=>match o with
 |some i=>match σ[i]? with
  |some v=>v
  |none=>none
 |none=>none
theorem Oa{fr:List (Option Nat)}{σ:St}{j:Nat}{v:V}(h:(frσ fr σ)[j]?=some (some v)):∃ i,fr[j]?=some (some i)/\σ[i]?=some (some v):=by
 unfold frσ at h;rw[Zac] at h;cases e:fr[j]? with
 |none=>rw[e] at h;cases h
 |some o=>
  rw[e] at h;cases o with
  |none=>cases h
  |some i=>
   simp only[Zbl] at h;cases e2:σ[i]? with
   |none=>rw[e2] at h;cases h
   |some w=>rw[e2] at h;exact⟨i,rfl,by simpa[e2] using h⟩
def Kv(X:Cx)(ifs:List Expr)(t:TT):Prop:=
 ∀ (pins:List (Addr×Obj)) (s:Shared) (σ:St) (H:Hp) (Q:Bool->Hp->Prop),Inv X pins σ H s->t σ H Q ->
  wpAny (model X.prog X.w) X.A (forIn ifs true λc r=>if r=true then do let ok <-isTrue c X.env (eval c X.env);pure (ForInStep.yield ok) else pure (ForInStep.yield r)) (TP X pins σ Q) X.xe s
def Tw:TT:=λ_ H Q=>Q true H
theorem jV{X:Cx}:Kv X [] Tw:=λ_ _ _ H _ I h=>wpAny_tests_nil ⟨H,I,h⟩
theorem Kw{X:Cx}{c:Expr}{t:TT}(h:PT X c t):Kv X [c] t:=λpins s σ H Q I hw=>wpAny_tests_one (h pins s σ H Q I hw)
def Tz(D:Addr)(tc:TT)(te:TE):TS:=λE σ H=>tc σ H λb H1=>if b=true then te σ H1 λv H2=>∃ ys,H2 D=some (.lst ys)/\ys.length<sizeLine/\E.nx σ (upd H2 D (.lst (ys++[v]))) else E.nx σ H1
def endC(Q:VK)(D:Addr):Ends:={ nx:=λ_ H=>Q (.ref D) H,rt:=λ_ _=>False }
def u5(wi:TI)(fr:List (Option Nat))(g:TG)(tc:TT)(te:TE):TE:=λσ H Q=>wi σ H λJ H1=>∀ D,H1 D=none->∃ W:Nat->Nat->St->Hp->Prop,(∃ m,W 0 m (frσ fr σ) (upd H1 D (.lst [])))/\∀ i m σ H,W i m σ H ->
 (J.stop i H/\(endC Q D).nx σ H)\/(J.go i H/\∃ N:St->Hp->Prop,(∀ σ' H',N σ' H'->∃ m',m'<m/\W (i+1) m' σ' H')/\∀ x H',J.yld i H x H'->g x σ H' λσ2 H2=>Tz D tc te { endC Q D with nx:=N,ct:=N,bk:=(endC Q D).nx } σ2 H2)
section
variable{prog:Program}{w:World}{A:Around}{R:Result->Shared->Prop}{s:Shared}
theorem Jh{elt target iter:Expr}{ifs:List Expr}{scope:Scope}{pos:Pos}{it acc:Value}{env:Env}(I:Nat->Shared->Prop)
  (turn:∀ n s,I n s->wpAny (model prog w) A (pyNext it) (λr s₁=>match r with
   |none=>R (.ok .next) s₁
   |some v=>wpAny (model prog w) A (letOwnedTupleGo target it v) (λ_ s₁=>wpAny (model prog w) A (assign target env v) (λ_ s₂=>
     wpAny (model prog w) A (forIn ifs true λc r=>if r=true then do let ok <-isTrue c env (eval c env);pure (ForInStep.yield ok) else pure (ForInStep.yield r)) (λok s₃=>
      if ok=true then wpAny (model prog w) A (eval elt env) (λx s₄=>
       wpAny (model prog w) A (call (.builtin "list.append") [acc,x]) (λ_ s₅=>∃ m,m<n/\I m s₅) (notedBy (model prog w) A env λe s'=>R (.error e) s') s₄) (notedBy (model prog w) A env λe s'=>R (.error e) s') s₃
      else ∃ m,m<n/\I m s₃) (notedBy (model prog w) A env λe s'=>R (.error e) s') s₂) (notedBy (model prog w) A env λe s'=>R (.error e) s') s₁) (notedBy (model prog w) A env λe s'=>R (.error e) s') s₁) (notedBy (model prog w) A env λe s'=>R (.error e) s') s)
  (n:Nat)(h:I n s) :
  codeAny (model prog w) A (.compLoop (.ListComp elt [⟨target,iter,ifs,0⟩] scope pos) 0 it acc env) R s:=by
 refine codeAny_loop rfl I (λn s hI=>?_) n h;show wpAny _ A ((compTurn (.ListComp elt [⟨target,iter,ifs,0⟩] scope pos) 0 it acc env).onRaise (λx=>do noteFrame x env;theTreesLotGoes x)) _ _ s
 refine wpAny_noted ?_;rw[compTurn_list];refine Zah (wpAny_standAt (Zah (ZaY (turn n s hI) (λr s₁ h₁=>?_) λ_ _ h'=>h')));cases r with
 |none=>exact Zaw h₁
 |some v=>
  refine Zah (ZaY h₁ (λ_ s₁' h₁'=>?_) λ_ _ h'=>h');refine Zah (ZaY h₁' (λ_ s₂ h₂=>Zah (ZaY h₂ (λok s₃ h₃=>?_) λ_ _ h'=>h')) λ_ _ h'=>h');cases ok with
  |false=>exact Zaw ⟨rfl,h₃⟩
  |true=>
   exact Zah (Zah (ZaY h₃ (λx s₄ h₄=>Zah (ZaY h₄ (λ_ s₅ h₅=>Zaw (Zaw ⟨rfl,h₅⟩)) λ_ _ h'=>h')) λ_ _ h'=>h'))
end
structure Apart(X:Cx)(pins:List (Addr×Obj))(C:Addr):Prop where
 ne:C≠X.env.locals
 ab:X.s₀.heap.objs.size<=C
 cells:∀ x c,X.env.cells.lookup x=some c->c≠C
 pins:∀ p∈X.pn++pins,p.1≠C
section
variable{X:Cx}{elt tg iter:Expr}{ifs:List Expr}{scope:Scope}{pos pos':Pos}{wi:TI}{g:TG}{tc:TT}{te:TE}{pins:List (Addr×Obj)}{σ:St}{H:Hp}{s:Shared}
theorem BW(N:List Str)(fr:List (Option Nat))(hc:X.calm=true)(hi:PI X tg iter wi)(hg:∀ cl C s2 H2 fp,PG (X.comp N scope cl C s2 H2 fp) tg g)
  (ht:∀ cl C s2 H2 fp,Kv (X.comp N scope cl C s2 H2 fp) ifs tc)(he:∀ cl C s2 H2 fp,PE (X.comp N scope cl C s2 H2 fp) elt te)
  (ok:wC X.N N X.env.scope scope fr=true)(hs:∀ x,foldedSetIterable iter X.env x=pure x){Q:VK}{Q':Value->Shared->Prop}{use:Option (Value->Sem Unit)}
  (I:Inv X pins σ H s)(h:u5 wi fr g tc te σ H Q)
  (fin:∀ D C s' H',Inv X pins σ H' s'->H' C=none->Apart X pins C->(∃ m,s'.heap.Ns C m)->Q (.ref D) H'->compPost (model X.prog X.w) X.A X.xe use Q' (.ref D) C (.ok .next) s') :
  wpAny (model X.prog X.w) X.A (comprehension (.ListComp elt [⟨tg,iter,ifs,0⟩] scope pos) scope X.env pos' (newList []) false (eval iter X.env) use) Q' X.xe s:=by
 obtain⟨o1,o2,o3,o4,o5,o6⟩:=BV ok;obtain⟨cl,hclos,c1,c2⟩:=Ft (scope:=scope) (env:=X.env) (λx hx hf=>I.ok.has x.1 (o5 x hx hf));refine wpAny_comprehension_free (use:=use) rfl hs hclos o2 o4 (thn (hi pins s σ H _ I h) λxv s1 h1=>thn h1 λitv s2 h2=>?_);obtain⟨it,fp,tn,J,H2,rfl,I2,T,st2,f2,hW⟩:=h2;refine wpAny_newObj_type (wpAny_newFunctionEnv o3 (by intro y hy;simp at hy) (λh₁ hns₁ hsb₁=>?_) o2)
 dsimp only at hns₁ hsb₁ ⊢;generalize hHH:s2.heap.push { cls:=.type "list",dict:=none,data:=.seq ([]:List Value).toArray }=HH at hns₁ hsb₁ ⊢
 have hC:HH.objs.size=s2.heap.objs.size+1:=by rw[<-hHH,Heap.size_push]
 have hDC:s2.heap.objs.size≠HH.objs.size:=by rw[hC];exact ZaF (Nat.lt_succ_self _)
 have hCle:s2.heap.objs.size<=HH.objs.size:=by rw[hC];exact Nat.le_succ _
 have neC:∀ b,b<s2.heap.objs.size->b≠HH.objs.size:=λb hb=>by rw[hC];exact ZaF (Nat.lt_succ_of_lt hb)
 have old:∀ b o,s2.heap.get? b=some o->h₁.get? b=some o:=λb o e=>hsb₁.extBut b o (neC b (Zam e)) (Zaf _ (hHH▸Zaf _ e));have atD:h₁.get? s2.heap.objs.size=some { cls:=.type "list",data:=.seq ([]:List Value).toArray }:=hsb₁.extBut _ _ hDC (Zaf _ (hHH▸Zau _ rfl));have ltf:∀ b∈fp,b<s2.heap.objs.size:=λb hb=>let⟨o,e,_⟩:=T.obj _ _ st2 b hb;Zam e;have ltc:∀ x c,X.env.cells.lookup x=some c->c<s2.heap.objs.size:=λx c e=>let⟨v,q⟩:=I2.cell x c e;q.lt;have ltp:∀ p∈X.pn++pins,p.1<s2.heap.objs.size:=λp hp=>Zam (I2.pin p hp).1;have fresh:H2 s2.heap.objs.size=none:=I2.hok.fresh (Zag _);have freshC:H2 HH.objs.size=none:=I2.hok.fresh hCle;have ap:Apart X pins HH.objs.size:=⟨Nat.ne_of_gt (Zas I2.lt hCle),ZaC I2.sz hCle,λx c e=>neC c (ltc x c e),λp hp=>neC _ (ltp p hp)⟩;have okY:(X.comp N scope cl HH.objs.size s2 H2 fp).Ok:={
  mod:=I2.ok.mod
  kind:=o2
  glob:=I2.ok.glob
  blt:=I2.ok.blt
  above:=hCle
  inj:=λx y c a b=>I2.ok.inj x y c (c1 _ _ a) (c1 _ _ b)
  has:=λx hx=>c2 x (lookup_mem (Fv (λz=>o3 _ (lookup_mem z) rfl) hx))
  cab:=λx c hx _=>by cases hx
  hd:=I2.ok.hd
  frames:=I2.ok.frames
  stk:=.inl rfl
  exf:=λb hb=>⟨neC b (ltf b hb),λx c e=>(f2 b hb).2.2.2.2.1 x c (c1 x c e)⟩
  bs:=I2.bs
  bsz:=ZaC I2.ok.bsz I2.sz
  noex:=λb o e hb=>by
   rcases(f2 b hb).2.2.2.1 with z|z
   ·exact I2.ok.noex b o e z
   ·exact absurd (Zas (Zam e) (ZaC I2.ok.bsz z)) (Zbm _)
  exfs:=λb hb hf=>by
   rcases Zao.mp (I2.Ey b hf) with z|z
   ·exact(f2 b hb).2.1 z
   ·exact(f2 b hb).2.2.1 z
  vA:=I2.stack
  frf:=I2.GX }
 have IY:Inv (X.comp N scope cl HH.objs.size s2 H2 fp) [] (frσ fr σ) (upd H2 s2.heap.objs.size (.lst [])) { s2 with heap:=h₁,toks:=s2.toks+([]:List (Str×Value)).length }:={
  ok:=okY
  os:=rfl
  bare:=I2.bare
  base:=Un.laid old (Zag _) fresh
  loc:=by
   refine⟨_,hns₁,λj x v e1 e2 e3=>?_⟩;obtain⟨i,f1,f2'⟩:=Oa e2;obtain⟨g1,g2⟩:=o6 j i x f1 e1;have k2:=o5 _ (lookup_mem g2) rfl;obtain⟨m2,hm2,l2⟩:=I2.loc;obtain⟨u,ru,lk⟩:=l2 i x v g1 f2' (.inr k2);refine⟨u,ru,.inr ⟨tG g2,?_⟩⟩;obtain⟨c,hcl⟩:=c2 x (lookup_mem g2);refine⟨c,hcl,?_⟩;rcases lk with⟨k,_⟩|⟨_,c',e',z⟩
   ·rcases k2 with k2|k2
    ·rw[show X.env.kindOf x=X.env.scope.names.lookup x from rfl,k2] at k;cases k
    ·rw[show X.env.kindOf x=X.env.scope.names.lookup x from rfl,k2] at k;cases k
   ·rw[c1 x c hcl] at e';cases e';obtain⟨oc,hoc,hd⟩:=z;exact⟨oc,old c oc hoc,hd⟩
  cell:=λx c e=>by
   obtain⟨v,oc,hoc,hd⟩:=I2.cell x c (c1 x c e);exact⟨v,oc,old c oc hoc,hd⟩
  free:=(aU (Za0 hDC)).trans freshC
  freeC:=λx c e=>by
   rw[aU (ZaF (ltc x c (c1 x c e)))];exact I2.freeC x c (c1 x c e)
  pin:=λp hp=>by cases hp
  hok:=I2.hok.laid old (Zag _) ⟨Zbg _,[],0,.nil,atD⟩
  len:=by unfold frσ;rw[List.length_map];exact o1 }
 have stat:∀ {H':Hp}{pp:List (Addr×Obj)},pp=[]->(∀ b∈fp,H' b=none)->∀ b∈fp,wg (X.comp N scope cl HH.objs.size s2 H2 fp) pp H' b:=λ{H' pp} hp hn b hb=>by
  subst hp;exact⟨hn b hb,neC b (ltf b hb),λz=>okY.exfs b hb z,.inl hb,λx c e=>(f2 b hb).2.2.2.2.1 x c (c1 x c e),λp hp=>by cases hp⟩
 have back:∀ {σ':St}{H':Hp}{s':Shared},Inv (X.comp N scope cl HH.objs.size s2 H2 fp) [] σ' H' s'->Inv X pins σ H' s':=λ{σ' H' s'} I'=>
  I2.call' (ch:=fp) I'.os I'.base I'.hok I'.bare λb hb=>⟨(f2 b hb).2.2.2.1,(f2 b hb).2.1,(f2 b hb).2.2.2.2.1,(f2 b hb).2.2.2.2.2⟩
 have loop:∀ s₃:Shared,s₃={ s2 with heap:=h₁,toks:=s2.toks+([]:List (Str×Value)).length } ->
   codeAny (model X.prog X.w) X.A (.compLoop (.ListComp elt [⟨tg,iter,ifs,0⟩] scope pos) 0 (.ref it) (.ref s2.heap.objs.size) (compEnvC scope cl HH.objs.size X.env))
    (compPost (model X.prog X.w) X.A X.xe use Q' (.ref s2.heap.objs.size) HH.objs.size) s₃:=by
  rintro s₃ rfl;obtain⟨W,⟨m0,w0⟩,turn⟩:=hW s2.heap.objs.size fresh;refine Jh (λn s'=>∃ i σ' H',Inv (X.comp N scope cl HH.objs.size s2 H2 fp) [] σ' H' s'/\tn i s'.heap/\(∀ b∈fp,H' b=none)/\W i n σ' H') ?_ m0
   ⟨0,_,_,IY,T.keep _ _ _ st2 λb _ o e=>old b o e,λb hb=>by rw[aU (ZaF (ltf b hb))];exact(f2 b hb).1,w0⟩
  rintro n s3 ⟨i,σ3,H3,I3,st3,fr3,w3⟩;rcases turn i n σ3 H3 w3 with⟨stop,q⟩|⟨go,Nx,hN,step⟩
  ·refine thn (T.done (X.comp N scope cl HH.objs.size s2 H2 fp) rfl rfl rfl hc i [] s3 σ3 H3 _ I3 (stat rfl fr3) st3 stop) ?_;rintro r s4 ⟨hr,I4⟩;subst hr;obtain⟨m4,hm4,_⟩:=I4.loc;exact fin _ _ s4 H3 (back I4) I4.free ap ⟨m4,hm4⟩ q
  ·refine thn (T.item (X.comp N scope cl HH.objs.size s2 H2 fp) rfl rfl rfl hc i [] s3 σ3 H3 _ I3 (stat rfl fr3) st3 go) ?_;rintro r s4 ⟨u,hr,h4⟩;subst hr;refine thn h4 ?_;rintro _ s5 ⟨x,H5,I5,r5,y5,st5,fr5⟩;have I5':=I5.pinned (stat rfl fr5) (T.obj _ _ st5);refine ZaY (hg cl HH.objs.size s2 H2 fp _ s5 σ3 H5 x u _ I5' r5 (step x H5 y5)) (?_) λ_ _ f=>f.elim;rintro _ s6 ⟨σ6,H6,I6,q6⟩;have again:∀ {s7:Shared}{σ7:St}{H7:Hp},Inv (X.comp N scope cl HH.objs.size s2 H2 fp) ([]++wj fp s5.heap) σ7 H7 s7->Nx σ7 H7 ->
     ∃ m,m<n/\∃ i σ' H',Inv (X.comp N scope cl HH.objs.size s2 H2 fp) [] σ' H' s7/\tn i s7.heap/\(∀ b∈fp,H' b=none)/\W i m σ' H':=λ{s7 σ7 H7} I7 n7=>by
    obtain⟨m',hm,w7⟩:=hN σ7 H7 n7;refine⟨m',hm,i+1,σ7,H7,I7.sY,T.keep _ _ _ st5 λb hb o e=>(I7.pin (b,o) (ZaH _ (ZaH _ (nq hb e)))).1,λb hb=>?_,w7⟩;obtain⟨o,e,d⟩:=T.obj _ _ st5 b hb;exact(I7.pin (b,o) (ZaH _ (ZaH _ (nq hb e)))).2.1
   refine ZaY (ht cl HH.objs.size s2 H2 fp _ s6 σ6 H6 _ I6 q6) (?_) λ_ _ f=>f.elim;rintro b s7 ⟨H7,I7,q7⟩;cases b with
   |false=>
    rw[Zap (by decide)] at q7 ⊢
    exact again I7 q7
   |true=>
    rw[Zan rfl] at q7 ⊢;refine ZaY (he cl HH.objs.size s2 H2 fp _ s7 σ6 H7 _ I7 q7) (?_) λ_ _ f=>f.elim;rintro y s8 ⟨v,H8,I8,r8,q8⟩;obtain⟨ys,e8,l8,n8⟩:=q8;refine ZaY (dH (X:=X.comp N scope cl HH.objs.size s2 H2 fp) _ s8 σ6 H8 (.ref s2.heap.objs.size) [v] (.ref s2.heap.objs.size) [y] (λ_ H9=>Nx σ6 H9) I8 rfl (.cons r8 .nil) ⟨_,ys,v,rfl,rfl,e8,l8,n8⟩) (?_) λ_ _ f=>f.elim;rintro _ s9 ⟨_,H9,I9,_,n9⟩;exact again I9 n9
 exact codeAny_compStart_list (loop _ rfl) (T.self _ 0 _ _ _ (T.keep _ _ _ st2 λb _ o e=>old b o e) (loop _ rfl))
theorem gq(N:List Str)(fr:List (Option Nat))(hc:X.calm=true)(hi:PI X tg iter wi)(hg:∀ cl C s2 H2 fp,PG (X.comp N scope cl C s2 H2 fp) tg g)
  (ht:∀ cl C s2 H2 fp,Kv (X.comp N scope cl C s2 H2 fp) ifs tc)(he:∀ cl C s2 H2 fp,PE (X.comp N scope cl C s2 H2 fp) elt te)
  (ok:wC X.N N X.env.scope scope fr=true:=by kernel_rfl)(hs:∀ x,foldedSetIterable iter X.env x=pure x:=by intro _;rfl) :
  PE X (.ListComp elt [⟨tg,iter,ifs,0⟩] scope pos) (u5 wi fr g tc te):=by
 intro pins s σ H Q I h;rw[eval_ListComp];refine BW (use:=none) N fr hc hi hg ht he ok hs I h λD C s' H' I' hn ap hm q=>?_;obtain⟨m,hm⟩:=hm;exact⟨m,hm,λh' sb=>⟨.ref D,H',I'.turned (t':=s'.toks) (λb o hb e=>(sb.2 b hb).trans e) hn ap.ne (.inr ap.ab) ap.cells ap.pins,rfl,q⟩⟩
theorem Ob{i:Nat}{y:Str}{py spos:Pos}(N:List Str)(fr:List (Option Nat))(hc:X.calm=true)(hN:X.N.Nodup)(hiy:X.N[i]?=some y)(hy:X.env.scope.names.lookup y=some .local)(hi:PI X tg iter wi)
  (hg:∀ cl C s2 H2 fp,PG (X.comp N scope cl C s2 H2 fp) tg g)(ht:∀ cl C s2 H2 fp,Kv (X.comp N scope cl C s2 H2 fp) ifs tc)(he:∀ cl C s2 H2 fp,PE (X.comp N scope cl C s2 H2 fp) elt te)
  (ok:wC X.N N X.env.scope scope fr=true:=by kernel_rfl)(hs:∀ x,foldedSetIterable iter X.env x=pure x:=by intro _;rfl)
  (hsw:swapsWith (.ListComp elt [⟨tg,iter,ifs,0⟩] scope pos) (some (.Name y py)) spos.line X.env=pure true:=by rfl) :
  PS X (.Assign [.Name y py] (.ListComp elt [⟨tg,iter,ifs,0⟩] scope pos) spos) (ye (u5 wi fr g tc te) (uY i)):=by
 intro pins s σ H D I h;rw[exec_Assign_Name_used _ _ _ _ hsw];refine Zah (wpAny_standAt (Zah ?_));show wpAny _ X.A (do let _ <-comprehension (.ListComp elt [⟨tg,iter,ifs,0⟩] scope pos) scope X.env _ (newList []) false (eval iter X.env) (some (assign (.Name y py) X.env))) _ _ s
 refine Zah (ZaY (BW (use:=some (assign (.Name y py) X.env)) (Q':=λ_ s'=>SP X pins D .next s') N fr hc hi hg ht he ok hs I h λDa C s' H' I' hn ap hm q=>?_) (λ_ s' hq=>Zaw (Zaw hq)) λ_ _ e=>e);obtain⟨m,hm⟩:=hm;show wpAny _ X.A (assign (.Name y py) X.env (.ref Da)) _ _ _
 refine wpAny_assign_Name (yz I' hN hiy (.inl hy) (v:=.ref Da) rfl (λs'' I'' hsb=>?_) (.inr hy));obtain⟨a,sb,ha⟩:=hsb;have hne:C≠a:=by
  rcases ha with z|z
  ·rw[z];exact ap.ne
  ·exact Za0 (ap.cells y a z)
 exact⟨m,hm.sameBut sb hne,λh' sb'=>⟨_,H',I''.turned (t':=s''.toks) (λb o hb e=>(sb'.2 b hb).trans e) hn ap.ne (.inr ap.ab) ap.cells ap.pins,q⟩⟩
end
section
variable{X:Cx}{pins:List (Addr×Obj)}{σ:List (Option V)}{H:Hp}{s:Shared}{h':Heap}
theorem Inv.zF{t':Nat}{ch:List Addr}(I:Inv X pins σ H s)(k:∀ b o,b ∉ ch->s.heap.get? b=some o->h'.get? b=some o)(hf:∀ b∈ch,wg X pins H b):Inv X pins σ H { s with heap:=h',toks:=t' }:=by
 have nit:∀ b u,H b=some u->b ∉ ch:=λb u e z=>by rw[(hf b z).1] at e;cases e
 refine I.step (g':=s.gens) (d':=s.drawn) (ch:=ch) (λb hb=>⟨(hf b hb).2.2.2.1,(hf b hb).2.1,(hf b hb).2.2.2.2.1,(hf b hb).2.2.2.2.2⟩) (λb o _ _ hc e _=>k b o hc e) (λb o _ _ hc e _=>⟨o.slots,k b o hc e⟩) (λ_ _ _ _ n=>n)
  (λb o hc e=>⟨o,k b o hc e⟩) (λ_ _ e=>e) (λ_ _ _ e=>e) (λb ps e=>⟨#[],by rw[e];simp⟩) (λm hm=>?_) (λb u e=>?_) I.bare
 ·obtain⟨o,es,ep,ho,r⟩:=hm;exact⟨o,es,ep,k _ o (λz=>(hf _ z).2.1 rfl) ho,r⟩
 ·refine(I.hok b u e).stay (λc v hc q=>k c v ?_ q) (λ_ q=>q) λ_ _ q=>q;rcases hc with z|z
  ·rw[z];exact nit b u e
  ·exact nit c _ z
theorem Inv.Ji{t':Nat}{ch:List Addr}{a:Addr}{o:HO}(I:Inv X pins σ H s)(k:∀ b o,b ∉ ch->s.heap.get? b=some o->h'.get? b=some o)(hf:∀ b∈ch,wg X pins H b)(ha:s.heap.objs.size<=a)
  (new:d8 X.prog X.w (upd H a o) h' a o):Inv X pins σ (upd H a o) { s with heap:=h',toks:=t' }:=by
 have hn:H a=none:=I.hok.fresh ha;have nit:∀ b u,H b=some u->b ∉ ch:=λb u e z=>by rw[(hf b z).1] at e;cases e
 have ne:∀ b ob,s.heap.get? b=some ob->b≠a:=λb ob e z=>by rw[z] at e;exact absurd (Zas (Zam e) ha) (Zbm _)
 refine I.step (g':=s.gens) (d':=s.drawn) (ch:=ch) (λb hb=>⟨(hf b hb).2.2.2.1,(hf b hb).2.1,(hf b hb).2.2.2.2.1,(hf b hb).2.2.2.2.2⟩) (λb o _ _ hc e _=>k b o hc e) (λb o _ _ hc e _=>⟨o.slots,k b o hc e⟩) (λb ob _ e n=>by rw[aU (ne b ob e)];exact n)
  (λb o hc e=>⟨o,k b o hc e⟩) (λb xs e=>by rw[aU (bY e hn)];exact e) (λb ob u e=>by rw[aU (bY e hn)];exact e) (λb ps e=>⟨#[],by rw[aU (bY e hn),e];simp⟩) (λm hm=>?_) (λb u e=>?_) I.bare
 ·obtain⟨o,es,ep,ho,r⟩:=hm;exact⟨o,es,ep,k _ o (λz=>(hf _ z).2.1 rfl) ho,r⟩
 ·by_cases hb:b=a
  ·subst hb;rw[aX] at e;cases e;exact new
  ·rw[aU hb] at e;refine(I.hok b u e).stay (λc v hc q=>k c v ?_ q) (λc q=>by rw[aU (bY q hn)];exact q) λc xs q=>by rw[aU (bY q hn)];exact q
   rcases hc with z|z
   ·rw[z];exact nit b u e
   ·exact nit c _ z
end
def Itf(f:Nat->V)(n:Nat):It:=⟨λi _=>i<n,λi H x H'=>H'=H/\x=f i,λi _=>i=n⟩
def sgn(z:Str)(i:Nat):V:=.str ⟨#[z.cps.getD i 0]⟩
theorem yI{P:Program}{w:World}{A:Around}(hh:A.handled=none)(it:Addr)(z:Str)(t:Tok):Walks P w A it [it] [it] z.cps.size (SignAt z) (λi h=>h.IsStrIter it (strIterType z) z t i):=by
 unfold strIterType;split
 ·exact Walks.strAscii hh it z t
 ·exact Walks.strWide hh it z t
theorem Ky{P:Program}{w:World}{K:Frag}{tg:Expr}(it:Addr)(z:Str)(t:Tok):Turn P w K tg (Itf (sgn z) z.cps.size) [it] it (λi h=>h.IsStrIter it (strIterType z) z t i) where
 mem:=by simp
 obj:=λi h st b hb=>by
  have e:b=it:=by simpa using hb
  subst e;obtain⟨o,e,c,d⟩:=st;exact⟨o,e,λv z=>by rw[d] at z;cases z⟩
 keep:=λi h h' st k=>let⟨o,e,r⟩:=st;⟨o,k it (by simp) o e,r⟩
 item:=by
  intro X hP hw hK hc i pins s σ H E I hf st hg;subst hP hw hK;obtain⟨f0,f1,f2,f3,f4,f5⟩:=hf it (by simp)
  have W:=yI (P:=X.prog) (w:=X.w) (I.ok.hd hc) it z t;refine W.item i s _ _ hg st λv h' tk hv st' kk=>?_;obtain⟨c,u,hx,rfl⟩:=hv;have I1:Inv X pins σ H { s with heap:=h',toks:=tk }:=I.turned (λb o hb e=>kk b o (by simpa using hb) e) f0 f1 f3 f4 f5
  obtain⟨o,e,cc,d⟩:=id st';have ec:z.cps.getD i 0=c:=by rw[Zbb,hx];rfl
  refine⟨_,rfl,Bw (s:={ s with heap:=h',toks:=tk }) e cc d (by unfold strIterType;split<;>decide) ⟨sgn z i,H,I1,⟨u,?_⟩,⟨rfl,rfl⟩,st',λb hb=>(hf b hb).1⟩⟩
  rw[ec]
 done:=by
  intro X hP hw hK hc i pins s σ H E I hf st hg;subst hP hw hK;have hg':i=z.cps.size:=hg;subst hg';obtain⟨f0,f1,f2,f3,f4,f5⟩:=hf it (by simp)
  have W:=yI (P:=X.prog) (w:=X.w) (I.ok.hd hc) it z t;exact W.done s _ _ st λh' tk kk=>⟨rfl,I.turned (λb o hb e=>kk b o (by simpa using hb) e) f0 f1 f3 f4 f5⟩
 self:=λA i s Q E st h=>by
  unfold strIterType at st;split at st
  ·exact wpAny_pyIter_striter_ascii st h
  ·exact wpAny_pyIter_striter_wide st h
def Ite(K:Frag)(a:Addr):It:=
 ⟨λi H=>∃ xs x,SqL K H a xs/\xs[i]?=some x,λi H x H'=>∃ p y,H p=none/\x=.ref p/\H'=upd H p (.tup [.int i,y])/\∀ xs,SqL K H a xs->xs[i]?=some y,λi H=>∃ xs,SqL K H a xs/\xs.length<=i⟩
theorem Jj{P:Program}{w:World}{K:Frag}{elts:List Expr}{x1:Nat}{pos:Pos}(a e it:Addr)(hei:e≠it) :
  Turn P w K (.Tuple elts x1 pos) (Ite K a) [e,it] e (λi h=>(∃ old,IsEnum h e it (i:Int) old)/\h.IsListIter it a i) where
 mem:=by simp
 obj:=λi h st b hb=>by
  obtain⟨⟨old,he⟩,o,ho,c,d⟩:=st;rcases Zao.mp hb with z|z
  ·subst z;exact⟨_,he,λv q=>by cases q⟩
  ·have z:b=it:=by simpa using z
   subst z;exact⟨o,ho,λv q=>by rw[d] at q;cases q⟩
 keep:=λi h h' st k=>by
  obtain⟨⟨old,he⟩,hit⟩:=st;exact⟨⟨old,k e (by simp) _ he⟩,hit.at λo q=>k it (by simp) o q⟩
 item:=by
  intro X hP hw hK hc i pins s σ H E I hf st hg;subst hP hw hK;obtain⟨xs,x,hq,hx⟩:=hg;obtain⟨its,rv,p,hz⟩:=I.list hq;obtain⟨u,hu,ru⟩:=rv.get hx;obtain⟨⟨old,he⟩,hit⟩:=st;have hl:=p.isList;have hai:a≠it:=by
   rintro rfl;obtain⟨o1,e1,c1,_⟩:=hl;obtain⟨o2,e2,c2,_⟩:=hit;rw[e1] at e2;cases e2;rw[c1] at c2;exact absurd c2 (by decide)
  have hae:a≠e:=by
   rintro rfl;obtain⟨o1,e1,c1,_⟩:=hl;rw[he] at e1;cases e1;exact absurd (show Value.type "enumerate"=Value.type "list" from c1) (by decide)
  have D:=Draws.list (prog:=X.prog) (w:=X.w) (A:=X.A.in1) (I.ok.hd hc) it a hai its.toArray;have hlt:i<its.toArray.size:=by
   have:=(Zar.mp hu).1;simpa using this
  refine wpAny_pyNext_enum_itemD D he ⟨hit,hl⟩ hlt hei (by simp[hei,Za0 hae]) λv h1 tk hP ho hst hT hsz hk=>?_
  have ev:v=u:=by
   have hP':its.toArray[i]?=some v:=hP;rw[List.getElem?_toArray,hu] at hP';exact(Zaa hP').symm
  subst ev;refine⟨_,rfl,wpAny_letOwnedTupleGo_enum ho λh2 he2 hs2=>?_⟩;have elt:e<s.heap.objs.size:=Zam he;have hT2:h2.get? s.heap.objs.size=some { cls:=.type "tuple",data:=.seq #[.int i tk,v] }:=(hs2.2 _ (Nat.ne_of_gt elt)).trans hT;refine⟨.ref s.heap.objs.size,upd H s.heap.objs.size (.tup [.int i,x]),I.Ji (ch:=[e,it]) (λb o hb q=>?_) hf (Zag _) ⟨by show 2<=sizeLine;decide,[.int i tk,v],.cons ⟨tk,rfl⟩ (.cons ru .nil),gC.mk hT2⟩,rfl,⟨_,x,I.hok.fresh (Zag _),rfl,rfl,λys hy=>by rw[I.vZ hy hq];exact hx⟩,⟨⟨v,by simpa using he2⟩,?_⟩,λb hb=>?_⟩
  ·have h1':b≠e:=λz=>hb (by simp[z])
   have h2':b≠it:=λz=>hb (by simp[z])
   exact(hs2.2 b h1').trans (hk b o h1' h2' q)
  ·exact hst.1.at λo q=>(hs2.2 it (Za0 hei)).trans q
  ·rw[aU ?_]
   ·exact(hf b hb).1
   ·rcases Zao.mp hb with z|z
    ·rw[z];exact ZaF elt
    ·have z:b=it:=by simpa using z
     rw[z];obtain⟨o2,e2,_⟩:=hit;exact ZaF (Zam e2)
 done:=by
  intro X hP hw hK hc i pins s σ H E I hf st hg;subst hP hw hK;obtain⟨xs,hq,hx⟩:=hg;obtain⟨its,rv,p,hz⟩:=I.list hq;obtain⟨⟨old,he⟩,hit⟩:=st;have hl:=p.isList;have ln:=rv.length;refine wpAny_pyNext_enum_end (I.ok.hd hc) he hit hl (by rw[List.getElem?_toArray];exact List.getElem?_eq_none_iff.mpr (by omega)) λh1 eb=>⟨rfl,?_⟩
  exact I.zF (t':=s.toks) (ch:=[e,it]) (λb o hb q=>eb b o (λz=>hb (by simp[z])) q) hf
 self:=λA i s Q E st h=>by
  obtain⟨⟨old,he⟩,_⟩:=st;exact wpAny_pyIter_enum he h
def Qz(K:Frag)(ta:TA):TI:=λσ H R=>ta σ H λvs H1=>∃ a,vs=[.ref a]/\(∃ xs,SqL K H1 a xs)/\R (Ite K a) H1
theorem qt{X:Cx}{l:Expr}{ta:TA}{elts:List Expr}{x1:Nat}{tpos p pos:Pos}(hg:Gl X "enumerate")(hm:X.mg "enumerate"=none)(ha:PA X [l] ta)(hs:starEach [l] X.env=[(false,eval l X.env)]:=by rfl) :
  PI X (.Tuple elts x1 tpos) (.Call (.Name "enumerate" p) [l] [] pos) (Qz X.K ta):=by
 intro pins s σ H R I h;refine Call_ (ur I hg hm boot_enumerate (Zba (thn (ha pos pins s σ H _ I h) ?_) hs rfl));rintro us s1 ⟨vs,H1,I1,r1,q1⟩;obtain⟨a,e,⟨xs,hq⟩,q⟩:=q1;subst e;cases r1 with
 |cons r rr=>
  cases rr;cases r;obtain⟨its,rv,p,hz⟩:=I1.list hq;refine call_enumerate_list p.isList λh1 he hit hsz hk=>?_;refine wpAny_pyIter_enum he ?_;have I2:Inv X pins σ H1 { s1 with heap:=h1 }:=I1.kept (t':=s1.toks) hk;refine⟨s1.heap.objs.size+1,[s1.heap.objs.size+1,s1.heap.objs.size],_,_,H1,rfl,I2,Jj a _ _ (by simp),⟨⟨_,he⟩,hit⟩,λb hb=>?_,q⟩
  rcases Zao.mp hb with z|z
  ·subst z;exact I1.IW (Nat.le_succ _) (I1.hok.fresh (Nat.le_succ _))
  ·have z:b=s1.heap.objs.size:=by simpa using z
   subst z;exact I1.IW (Zag _) (I1.hok.fresh (Zag _))
section
variable{X:Cx}{b c e:Expr}
theorem all_range(bs:List Bool):(List.range bs.length).all (λi=>bs.getD i true)=bs.all id:=by
 rw[Bool.eq_iff_iff];simp only[ZaZ,ZaS,id];constructor
 ·intro h x hx;obtain⟨i,hi,rfl⟩:=List.mem_iff_getElem.mp hx;have:=h i hi;simpa[ZaG,hi] using this
 ·intro h i hi;have:=h bs[i] (List.getElem_mem hi);simpa[ZaG,hi] using this
theorem Kz(hc:X.calm=true):qQ X (.builtin "all") (λxs H Q=>∃ (p:Addr) (bs:List Bool),xs=[.ref p]/\SqL X.K H p (bs.map V.bl)/\Q (.bl (bs.all id)) H):=by
 intro pins s σ H xs us Q I rv h;obtain⟨p,bs,rfl,hq,q⟩:=h;obtain⟨u,rfl,ru⟩:=rv.one;cases ru;obtain⟨its,r,pl,hz⟩:=I.list hq;have ln:=r.length;rw[List.length_map] at ln;refine call_all_walk (wpAny_pyIter_list pl.isList ?_);have hne:p≠s.heap.objs.size:=by
  obtain⟨o,n,e,_⟩:=pl;exact ZaF (Zam e)
 refine⟨s.heap.objs.size,_,_,_,_,_,λi=>bs.getD i true,rfl,Walks.list (A:=X.A.in1) (I.ok.hd hc) s.heap.objs.size p hne its.toArray,⟨⟨_,Zau _ rfl,rfl,rfl⟩,pl.isList.at λo e=>Zaf _ e⟩,?_,λh' tk kk=>?_⟩
 ·intro i v s' Q' E' hP hQ;have hP':its.toArray[i]?=some v:=hP;rw[List.getElem?_toArray] at hP';have hi:i<its.length:=(Zar.mp hP').1;have hb:(bs.map V.bl)[i]?=some (V.bl (bs.getD i true)):=by
   rw[Zac,Zab (by omega)]
   simp[ZaG,show i<bs.length by omega]
  obtain⟨u,hu,ru⟩:=r.get hb;rw[hP'] at hu;cases hu;cases ru;exact wpAny_truthy_bool hQ
 ·have en:(List.range its.toArray.size).all (λi=>bs.getD i true)=bs.all id:=by
   rw[List.size_toArray,<-ln];exact all_range bs
  rw[en];refine⟨.bl _,H,?_,rfl,q⟩;refine I.kept λb o e=>kk b o ?_ (Zaf _ e);simp;exact ZaF (Zam e)
theorem Hi:∀ {ys:List Str}{us:List Value},Vals (ys.map V.str) us->StrsAre us ys
 |[],us,r=>by rw[List.map_nil] at r;cases r;exact .nil
 |y::ys,us,r=>by
  rw[Zai] at r;cases r with
  |cons r1 r2=>
   obtain⟨t,e⟩:=r1;subst e;exact .cons y t (Hi r2)
theorem Oc:MtR X "str.join" (λx xs H Q=>∃ (z:Str) (p:Addr) (ys:List Str),x=.str z/\xs=[.ref p]/\SqL X.K H p (ys.map V.str)/\(ys.map (·.length)).sum+ys.length*z.length<=16777216/\Q (.str (Txt.join z ys)) H):=by
 intro pins s σ H x xs v us Q I rx rv h;obtain⟨z,p,ys,rfl,rfl,hq,hz,q⟩:=h;obtain⟨t,rfl⟩:=rx;obtain⟨u,rfl,ru⟩:=rv.one;cases ru;obtain⟨its,r,pl,_⟩:=I.list hq;refine join_list pl.isList (by simpa using Hi r) hz λt' k=>⟨.str _,H,I.tok _,⟨t',rfl⟩,q⟩
theorem Jk:OpR X (compareOp .LtE) (λx y H Q=>∃ i j,x=.str i/\y=.str j/\Q (.bl (!(decide (j.cps.toList<i.cps.toList)))) H):=by
 intro pins s σ H x y v u Q I rx ry h;obtain⟨i,j,rfl,rfl,q⟩:=h;obtain⟨t,rfl⟩:=rx;obtain⟨t',rfl⟩:=ry;exact PySem.P.le_str (wy I q rfl)
def TF:V->Option Int->Option Int->Hp->VK->Prop:=λx lo hi H Q=>∃ z,x=.str z/\z.length<=sizeLine/\Q (.str (Txt.slice z lo hi)) H
theorem Fw:SlR X TF:=by
 intro pins s σ H x v vl vu lo hi sl Q I rx hs pl pu h;obtain⟨z,rfl,hz,q⟩:=h;obtain⟨t,rfl⟩:=rx;obtain⟨o,e,c,d⟩:=hs;refine⟨"str",_,F.slot_str_getitem.lookup,typeIs_str _ _ _,?_⟩;have fin:∀ t' k,EP X pins σ Q (.str (Txt.slice z lo hi) t') { s with toks:=k }:=λt' k=>⟨.str _,H,I.tok _,⟨t',rfl⟩,q⟩;cases pl with
 |none=>
  cases pu with
  |none=>exact wpAny_getItem_str_slice (l:=none) (u:=none) (st:=none) ⟨o,e,c,d⟩ rfl (post_val_or_str ⟨ZaC (Txt.slice_le z _ _) hz,fin⟩)
  |int j u=>exact wpAny_getItem_str_slice (l:=none) (u:=some (j,u)) (st:=none) ⟨o,e,c,d⟩ rfl (post_val_or_str ⟨ZaC (Txt.slice_le z _ _) hz,fin⟩)
 |int i t2=>
  cases pu with
  |none=>exact wpAny_getItem_str_slice (l:=some (i,t2)) (u:=none) (st:=none) ⟨o,e,c,d⟩ rfl (post_val_or_str ⟨ZaC (Txt.slice_le z _ _) hz,fin⟩)
  |int j u=>exact wpAny_getItem_str_slice (l:=some (i,t2)) (u:=some (j,u)) (st:=none) ⟨o,e,c,d⟩ rfl (post_val_or_str ⟨ZaC (Txt.slice_le z _ _) hz,fin⟩)
def stepV(xs:List V)(lo hi st:Option Int):List V:=(sliceRange (sliceBounds lo hi st xs.length).1 (sliceBounds lo hi st xs.length).2.1 (sliceBounds lo hi st xs.length).2.2).filterMap (xs[·]?)
theorem uB{xs:List V}{its:List Value}(r:Vals xs its):∀ js:List Nat,Vals (js.filterMap (xs[·]?)) (js.filterMap (its[·]?))
 |[]=>.nil
 |j::js=>by
  cases e:xs[j]? with
  |none=>
   rw[Za4 e,Za4 (r.none_of e)];exact uB r js
  |some v=>
   obtain⟨u,hu,ru⟩:=r.get e;rw[Za5 e,Za5 hu];exact .cons ru (uB r js)
end
structure bj(K:Frag)(mg:Str->Option Value)(x:Str)(st:Stmt)(ps:List Str):Prop where
 ex:∃ (f:Addr) (fd:FuncData),mg x=some (.ref f)/\Fun K x x st f fd/\Binds K fd ps []
def FnAt(P:Program)(w:World)(K:Frag)(mg:Str->Option Value)(base:Heap)(x:Str)(k:Nat)(ps:List Str)(sp:Sp):Prop:=
 ∃ (f:Addr) (fd:FuncData),mg x=some (.ref f)/\keepIn K (.ref f)=true/\Binds K fd ps []/\yf P w K mg base CX0 k f fd ps sp
theorem bj.ok{P:Program}{w:World}{K:Frag}{mg:Str->Option Value}{base:Heap}{x:Str}{st:Stmt}{ps N:List Str}{k:Nat}{sp:Sp}(D:bj K mg x st ps)(S:bB N ps (aL st))(len:∀ vs H Q E,sp vs H Q E->vs.length=ps.length)
  (hbody:∀ (f:Addr) (cdv:Value) (A:Around) (outer:List Env) (s:Shared) (H:Hp) (vs:List V) (Q:VK) (E:XK),fX k (A.deeper (envOfC x (aL st) s.heap.objs.size f cdv))->sp vs H Q E ->
   ∃ t,PSs (Fl CX0 P w K mg base N x (aL st) f cdv A outer s H E).nox (bh st) t/\t { nx:=λ_ H'=>Q .non H',rt:=Q } (start N vs) H):FnAt P w K mg base x (k+1) ps sp:=by
 obtain⟨f,fd,e,F,b⟩:=D.ex;exact⟨f,fd,e,F.kp,b,F.ok S len λcdv A outer s H vs Q E=>hbody f cdv A outer s H vs Q E⟩
section
variable{X:Cx}{k:Nat}{ps:List Str}{sp:Sp}{x:Str}{p pos:Pos}{e:Expr}{es:List Expr}{t:TA}
theorem aW(G:FnAt X.prog X.w X.K X.mg X.base x k ps sp)(hr:fX k X.A)(hg:Gl X x)(ha:PA X (e::es) t)(hdb:(x==("__debug__":Str))=false:=by decide)
  (he:starEach (e::es) X.env=(false,eval e X.env)::starEach es X.env:=by rfl)(hpl:(backTo pos (starEach es X.env)).any (·.1)=false:=by rfl):PE X (.Call (.Name x p) (e::es) [] pos) (wA sp [] E0 t):=by
 obtain⟨f,fd,e1,e2,e3,e4⟩:=G;exact NP e4 hr hg e1 e2 e3 .nil Tu ha hdb he hpl
end
section
variable{X:Cx}{N:List Str}{scope:Scope}{cl:List (Str×Addr)}{C:Addr}{s2:Shared}{H2:Hp}{fp:List Addr}{x:Str}{pos:Pos}
theorem pvl(i:Nat)(hN:N[i]?=some x:=by rfl)(hv:scope.names.lookup x=some .local:=by rfl)(hd:(x==("__debug__":Str))=false:=by decide)(hcd:(x==("__classdict__":Str))=false:=by decide) :
  PE (X.comp N scope cl C s2 H2 fp) (.Name x pos) (o9 i):=Ez hN (.inl (jz (by decide) hv)) hd hcd
theorem pvf(i:Nat)(hN:N[i]?=some x:=by rfl)(hv:scope.names.lookup x=some .free:=by rfl)(hd:(x==("__debug__":Str))=false:=by decide)(hcd:(x==("__classdict__":Str))=false:=by decide) :
  PE (X.comp N scope cl C s2 H2 fp) (.Name x pos) (o9 i):=Ez hN (.inr (tG hv)) hd hcd
theorem glc(h:scope.names.lookup x=some .globalImplicit):Gl (X.comp N scope cl C s2 H2 fp) x:=jz (by decide) h
theorem dO{i:Nat}(hN:N.Nodup)(hi:N[i]?=some x)(hx:scope.names.lookup x=some .local):PG (X.comp N scope cl C s2 H2 fp) (.Name x pos) (uY i):=
 bH hN hi (.inl (jz (by decide) hx)) (.inr (jz (by decide) hx))
end
section
variable{X:Cx}{x:Str}{z:Str}{pos:Pos}
theorem tH(hg:Gl X x)(h:∃ t,X.mg x=some (.str z t))(hd:(x==("__debug__":Str))=false:=by decide):PE X (.Name x pos) (tC (.str z)):=by
 obtain⟨t,h⟩:=h;exact Nu hg h ⟨t,rfl⟩ hd
theorem wD{n:String}(hg:Gl X x)(hm:X.mg x=none)(hv:bootBuiltins x=some (.type n))(hn:x≠"__name__":=by decide)(hd:(x==("__debug__":Str))=false:=by decide):PE X (.Name x pos) (tC (.ty n)):=
 Nv hg hm hv rfl hn hd
end
theorem tyL{K:Frag}{H:Hp}{p:Addr}{xs:List V}(h:H p=some (.lst xs)):tyV K "list" (.ref p) H:=.inl ⟨rfl,xs,SqL.of h⟩
theorem d9{H:Hp}{p:Addr}{o:HO}(h:H p=none):bf H (upd H p o):=λb u e=>by rw[aU (bY e h)];exact e
theorem qu{H H1:Hp}{p:Addr}{o:HO}(h:H p=none)(s:bf H H1):bf H (upd H1 p o):=λb u e=>by rw[aU (bY e h)];exact s b u e
theorem bf.tup{K:Frag}{H H':Hp}{a:Addr}{xs:List V}(e:bf H H')(h:SqT K H a xs):SqT K H' a xs:=by
 rcases h with(h|⟨o,h⟩)|h
 ·exact .inl (.inl (e _ _ h))
 ·exact .inl (.inr ⟨o,e _ _ h⟩)
 ·exact .inr h
theorem BX{α:Type}{xs:List α}{i:Int}(h0:0<=i)(h:i<xs.length):∃ v,atI xs i=some v/\xs[i.toNat]?=some v:=by
 have hl:i.toNat<xs.length:=by lia
 refine⟨xs[i.toNat],?_,by simp[hl]⟩
 have:=cP (xs:=xs) (j:=i.toNat) (v:=xs[i.toNat]) (by simp[hl])
 rwa [ZaA h0] at this
theorem tyS{K:Frag}{H:Hp}{z:Str}:tyV K "str" (.str z) H:=rfl
theorem KC{K:Frag}{T:String}:PySem.W.kitOne K (.type T) (.type T)=some true:=by
 unfold PySem.W.kitOne;rw[Zan (by simp)]
def Ux(J:It)(g:TG)(tb:TS)(D:Ends)(σ:St)(H:Hp):Prop:=∃ W:Nat->Nat->St->Hp->Prop,(∃ m,W 0 m σ H)/\∀ i m σ H,W i m σ H ->
 (J.stop i H/\D.nx σ H)\/(J.go i H/\∃ N:St->Hp->Prop,(∀ σ' H',N σ' H'->∃ m',m'<m/\W (i+1) m' σ' H')/\∀ x H',J.yld i H x H'->g x σ H' λσ2 H2=>tb { D with nx:=N,ct:=N,bk:=D.nx } σ2 H2)
section
variable{X:Cx}{e es:Expr}{te:TE}{lo hi:Option Expr}{tl th ts:TO}{pos p2:Pos}
def TJ(K:Frag)(te:TE)(tl th ts:TO):TE:=λσ H Q=>te σ H λx H1=>tl σ H1 λl H2=>th σ H2 λu H3=>ts σ H3 λk H4=>
 ∃ a xs,x=.ref a/\SqL K H4 a xs/\k≠some 0/\∀ p,H4 p=none->Q (.ref p) (upd H4 p (.lst (stepV xs l u k)))
theorem Jl(he:PE X e te)(hl:PO X lo tl)(hu:PO X hi th)(hst:PO X (some es) ts):PE X (.Subscript e (.Slice lo hi (some es) p2) pos) (TJ X.K te tl th ts):=by
 intro pins s σ H Q I h;refine Subscript_ (thn (he pins s σ H _ I h) ?_);rintro v s1 ⟨x,H1,I1,r1,q1⟩;refine wpAny_Slice (thn (hl pins s1 σ H1 _ I1 q1) λvl s2 ⟨l,H2,I2,pl,q2⟩=>thn (hu pins s2 σ H2 _ I2 q2) λvu s3 ⟨u,H3,I3,pu,q3⟩=>thn (hst pins s3 σ H3 _ I3 q3) ?_);rintro vs s4 ⟨k,H4,I4,pk,q4⟩;obtain⟨a,xs,rfl,hx,hk,q⟩:=q4;cases r1;have I5:Inv X pins σ H4 { s4 with heap:=s4.heap.push { cls:=.type "slice",data:=.fields #[vl,vu,vs] } }:=I4.kept (t':=s4.toks) λb ob q=>Zaf _ q;obtain⟨its,r,ht,hz⟩:=I5.list hx;have hlen:=r.length;show wpAny (model X.prog X.w) X.A (subscriptTail e (.Slice lo hi (some es) p2) (.ref a) (.ref s4.heap.objs.size)) (EP X pins σ Q) X.xe { s4 with heap:=s4.heap.push { cls:=.type "slice",data:=.fields #[vl,vu,vs] } }
 refine tail_any (ops:=[.ref a,.ref s4.heap.objs.size]) ht.isList.typeIs slot_list_getitem.lookup (wpAny_getItem_list_slice ht.isList (Heap.IsSliceOf.new ..) pl pu pk hk ?_ (by rw[List.size_toArray]<;>omega)) (by with_unfolding_all rfl)
 have ep:slicePick its.toArray l u k=((sliceRange (sliceBounds l u k xs.length).1 (sliceBounds l u k xs.length).2.1 (sliceBounds l u k xs.length).2.2).filterMap (its[·]?)).toArray:=by
  unfold slicePick;rw[List.size_toArray,<-hlen];simp
 rw[ep];refine⟨.ref (s4.heap.push { cls:=.type "slice",data:=.fields #[vl,vu,vs] }).objs.size,_,I5.laid (t':=s4.toks) (o:=.lst (stepV xs l u k)) (λb ob q=>Zaf _ q) (Zag _) ?_,rfl,q _ (I5.hok.fresh (Zag _))⟩;have rp:=uB r (sliceRange (sliceBounds l u k xs.length).1 (sliceBounds l u k xs.length).2.1 (sliceBounds l u k xs.length).2.2);refine⟨?_,_,0,rp,Zau _ rfl⟩;have:=slicePick_size_le its.toArray l u k;rw[ep,List.size_toArray,List.size_toArray,<-rp.length] at this;exact ZaC this (by omega)
end
theorem Rw{n:Nat}{i:Int}(h0:0<=i)(h:i<n):ixN n i=some i.toNat:=by
 unfold ixN;rw[Zan h0,Zan h]
def SameBut(p:Addr)(H H':Hp):Prop:=∀ b o,H b=some o->b≠p->H' b=some o
section
variable{X:Cx}{N:List Str}{scope:Scope}{cl:List (Str×Addr)}{C:Addr}{s2:Shared}{H2:Hp}{fp:List Addr}
theorem qT:qQ (X.comp N scope cl C s2 H2 fp) (.type "list") (λxs H Q=>∃ p ys,xs=[.ref p]/\(SqL X.K H p ys\/SqT X.K H p ys)/\∀ l,H l=none->Q (.ref l) (upd H l (.lst ys))):=nu
theorem Od{es:List Expr}{k:Nat}{t:TGs}{n:Nat}{pos:Pos}(hc:X.calm=true)(h:PGs (X.comp N scope cl C s2 H2 fp) es t)
  (hn:(assignEach es (X.comp N scope cl C s2 H2 fp).env).length=n:=by rfl)(hst:(assignEach es (X.comp N scope cl C s2 H2 fp).env).findIdx? (·.1)=none:=by rfl):PG (X.comp N scope cl C s2 H2 fp) (.Tuple es k pos) (Rc X.K n t):=nj hc h hn hst
end
section
theorem tK{xs:List V}{its:List Value}(r:Vals xs its){j:Nat}(h:j<its.toArray.size):∃ x,xs[j]?=some x/\RelV x its.toArray[j]:=by
 have hl:j<its.length:=by simpa using h
 have hx:j<xs.length:=by rw[r.length];exact hl
 obtain⟨u,hu,ru⟩:=r.get (i:=j) (x:=xs[j]) (by simp[hx])
 refine⟨xs[j],by simp[hx],?_⟩
 have:its.toArray[j]=u:=by
  rw[Zab hl] at hu;simpa using hu
 rw[this];exact ru
end
section
variable{k:Nat}
theorem Fx{A:Around}(hr:fX k A):A.units+32<cLine:=Nat.lt_of_le_of_lt (Nat.add_le_add_left (by decide:32<=64) _) hr.units
end
def zG(H:Hp)(xs:List V)(ps:List (Int×Int)):Prop:=xs.length=ps.length/\∀ (j:Nat) (c:Int×Int),ps[j]?=some c->∃ a,xs[j]?=some (.ref a)/\H a=some (.tup [.int c.1,.int c.2])
section
variable{κ:Type}[DecidableEq κ]
def vD(kvs:List (κ×V))(k:κ):Option V:=(kvs.find? λkv=>decide (kv.1=k)).map (·.2)
def putK(kvs:List (κ×V))(k:κ)(v:V):List (κ×V):=
 if(kvs.any λkv=>decide (kv.1=k))=true then kvs.map (λkv=>if kv.1=k then(kv.1,v) else kv) else kvs++[(k,v)]
theorem tL{p:κ×V}{r:List (κ×V)}{k:κ}(e:p.1=k):vD (p::r) k=some p.2:=by simp[vD,Za3,e]
theorem pB{p:κ×V}{r:List (κ×V)}{k:κ}(e:¬p.1=k):vD (p::r) k=vD r k:=by simp[vD,Za3,e]
theorem BZ(k:κ):∀ kvs:List (κ×V),(kvs.any λkv=>decide (kv.1=k))=(vD kvs k).isSome
 |[]=>rfl
 |p::r=>by
  rw[Zbn];by_cases e:p.1=k
  ·simp only[tL e,ZaK e,Bool.true_or,Option.isSome_some]
  ·rw[pB e,Zay e,Bool.false_or];exact BZ k r
theorem km(kvs:List (κ×V))(k:κ)(v:V):(putK kvs k v).length<=kvs.length+1:=by
 unfold putK;split
 ·rw[List.length_map];omega
 ·rw[List.length_append,ZaP,List.length_nil];omega
theorem vz.uC{o:Option V}{u:Option Value}(r:vz o u):o.isSome=u.isSome:=by
 cases o with
 |none=>cases u with
  |none=>rfl
  |some _=>exact(show False from r).elim
 |some _=>cases u with
  |none=>exact(show False from r).elim
  |some _=>rfl
theorem vz.getD{o:Option V}{u:Option Value}{d:V}{d':Value}(r:vz o u)(rd:RelV d d'):RelV (o.getD d) (u.getD d'):=by
 cases o with
 |none=>cases u with
  |none=>exact rd
  |some _=>exact(show False from r).elim
 |some _=>cases u with
  |none=>exact(show False from r).elim
  |some _=>exact r
theorem KV.val{kvs:List (κ×V)}{vs:List (κ×Value)}(r:KV kvs vs)(k:κ):vz (vD kvs k) (valueAt vs k):=by
 unfold KV at r;induction r with
 |nil=>exact True.intro
 |@cons p q ps qs h t ih=>
  obtain⟨h1,h2⟩:=h;by_cases e:p.1=k
  ·have e':q.1=k:=h1.symm.trans e;have b:valueAt (q::qs) k=some q.2:=by simp[valueAt,Za3,e']
   rw[tL e,b];exact h2
  ·have e':¬q.1=k:=λz=>e (h1.trans z);have b:valueAt (q::qs) k=valueAt qs k:=by simp[valueAt,Za3,e']
   rw[pB e,b];exact ih
theorem KV.any{kvs:List (κ×V)}{vs:List (κ×Value)}(r:KV kvs vs)(k:κ):(kvs.any λkv=>decide (kv.1=k))=vs.any λkv=>decide (kv.1=k):=by
 unfold KV at r;induction r with
 |nil=>rfl
 |cons h t ih=>rw[Zbn,Zbn,ih,h.1]
theorem KV.repl{kvs:List (κ×V)}{vs:List (κ×Value)}(r:KV kvs vs)(k:κ){y:V}{u:Value}(ry:RelV y u) :
  KV (kvs.map λkv=>if kv.1=k then(kv.1,y) else kv) (vs.map λkv=>if kv.1=k then(kv.1,u) else kv):=by
 unfold KV at r ⊢;induction r with
 |nil=>exact .nil
 |@cons p q ps qs h t ih=>
  rw[Zai,Zai];refine .cons ?_ ih;obtain⟨h1,h2⟩:=h;by_cases e:p.1=k
  ·rw[Zan e,Zan (h1.symm.trans e)];exact⟨h1,ry⟩
  ·rw[Zap e,Zap (λz=>e (h1.trans z))];exact⟨h1,h2⟩
theorem KV.put{kvs:List (κ×V)}{vs:List (κ×Value)}(r:KV kvs vs)(k:κ){y:V}{u:Value}(ry:RelV y u):KV (putK kvs k y) (stored vs k u):=by
 unfold putK stored;rw[r.any k];by_cases e:(vs.any λkv=>decide (kv.1=k))=true
 ·rw[Zan e,Zan e];exact r.repl k ry
 ·rw[Zap e,Zap e];exact Paired.snoc r ⟨rfl,ry⟩
theorem KV.keys{kvs:List (κ×V)}{vs:List (κ×Value)}(r:KV kvs vs):kvs.map (·.1)=vs.map (·.1):=by
 unfold KV at r;induction r with
 |nil=>rfl
 |cons h t ih=>rw[Zai,Zai,ih,h.1]
theorem KV.length{kvs:List (κ×V)}{vs:List (κ×Value)}(r:KV kvs vs):kvs.length=vs.length:=Paired.length r
end
theorem yJ{P:Program}{w:World}{k:Key}{u:Value}(r:RelV (kV k) u):(di P w).is k u=true:=by
 cases k with
 |inl i=>obtain⟨t,e⟩:=(show ∃ t,u=Value.int i t from r);subst e;exact Bp P w i t
 |inr x=>obtain⟨t,e⟩:=(show ∃ t,u=Value.str x t from r);subst e;exact Bq P w x t
theorem yK{P:Program}{w:World}:∀ {ks:List Key}{us:List Value},Vals (ks.map kV) us->ItemsAre (di P w) ks us
 |[],_,r=>by rw[List.map_nil] at r;cases r;exact .nil
 |k::ks,_,r=>by
  rw[Zai] at r;cases r with
  |cons h t=>exact .cons (yJ h) (yK t)
noncomputable abbrev KT(H:Hp):List (List Key×V)->List (List Key×Addr×Value)->Prop:=Paired λp q=>p.1=q.1/\H q.2.1=some (.tup (p.1.map kV))/\RelV p.2 q.2.2
theorem KT.val{H:Hp}{kvs:List (List Key×V)}{xs:List (List Key×Addr×Value)}(r:KT H kvs xs)(k:List Key):vz (vD kvs k) ((atKey xs k).map (·.2)):=by
 induction r with
 |nil=>exact True.intro
 |@cons p q ps qs h t ih=>
  obtain⟨h1,_,h2⟩:=h;by_cases e:p.1=k
  ·have e':q.1=k:=h1.symm.trans e;have b:atKey (q::qs) k=some q.2:=by simp[atKey,Za3,e']
   rw[tL e,b];exact h2
  ·have e':¬q.1=k:=λz=>e (h1.trans z);have b:atKey (q::qs) k=atKey qs k:=by simp[atKey,Za3,e']
   rw[pB e,b];exact ih
theorem KT.repl{H:Hp}{kvs:List (List Key×V)}{xs:List (List Key×Addr×Value)}(r:KT H kvs xs)(k:List Key){y:V}{u:Value}(ry:RelV y u) :
  KT H (kvs.map λkv=>if kv.1=k then(kv.1,y) else kv) (xs.map (putAt k u)):=by
 induction r with
 |nil=>exact .nil
 |@cons p q ps qs h t ih=>
  rw[Zai,Zai];refine .cons ?_ ih;obtain⟨h1,h2,h3⟩:=h;unfold putAt;by_cases e:p.1=k
  ·rw[Zan e,Zan (h1.symm.trans e)];exact⟨h1,h2,ry⟩
  ·rw[Zap e,Zap (λz=>e (h1.trans z))];exact⟨h1,h2,h3⟩
theorem KT.put{H:Hp}{kvs:List (List Key×V)}{xs:List (List Key×Addr×Value)}(r:KT H kvs xs)(k:List Key){b:Addr}{y:V}{u:Value}(hb:H b=some (.tup (k.map kV)))(ry:RelV y u) :
  KT H (putK kvs k y) (storedH xs k b u):=by
 have e:(kvs.any λkv=>decide (kv.1=k))=(atKey xs k).isSome:=by
  rw[BZ,(r.val k).uC,Option.isSome_map]
 unfold putK storedH;rw[e];by_cases q:(atKey xs k).isSome=true
 ·rw[Zan q,Zan q];exact r.repl k ry
 ·rw[Zap q,Zap q];exact Paired.snoc r ⟨rfl,hb,ry⟩
theorem KT.keeps{H H':Hp}{kvs:List (List Key×V)}{xs:List (List Key×Addr×Value)}(r:KT H kvs xs)(ht:∀ b ys,H b=some (.tup ys)->H' b=some (.tup ys)):KT H' kvs xs:=
 Paired.Q7 r λ_ _ z=>⟨z.1,ht _ _ z.2.1,z.2.2⟩
section
variable{P:Program}{w:World}{H:Hp}{h:Heap}{a:Addr}
theorem QB{u:HO}(ok:HOk P w H h)(e:Rd H a u):d8 P w H h a u:=e.ok ok
theorem yL{kvs:List (Key×V)}(ok:HOk P w H h)(e:Rd H a (.dK kvs)):kvs.length<=sizeLine/\(a==sysModules)=false/\∃ vs,KV kvs vs/\h.DictOf (di P w) a vs:=
 show d8 P w H h a (.dK kvs) from QB ok e
theorem QC{kvs:List (Key×V)}(ok:HOk P w H h)(e:H a=some (.dK kvs)):kvs.length<=sizeLine/\(a==sysModules)=false/\∃ vs,KV kvs vs/\h.DictOf (di P w) a vs:=yL ok (.inl e)
theorem uD{ks:List Key}(ok:HOk P w H h)(e:H a=some (.tup (ks.map kV))):(tupleKind (di P w)).is h ks a:=by
 obtain⟨_,its,r,⟨o,h1,h2,n,h3⟩,_⟩:=(show d8 P w H h a (.tup (ks.map kV)) from ok a _ e);exact⟨o,its.toArray,n,h1,h2,h3,by simpa using yK r⟩
theorem yM{kvs:List (List Key×V)}(ok:HOk P w H h)(e:Rd H a (.dT kvs)):kvs.length<=sizeLine/\(a==sysModules)=false /\
  ∃ xs,KT H kvs xs/\h.DictOfH (tupleKind (di P w)) a xs:=by
 obtain⟨z,y,xs,r,o,es,ep,h1,h2,h3,h4,h5⟩:=(show d8 P w H h a (.dT kvs) from QB ok e);refine⟨z,y,xs,r,o,es,ep,h1,h2,h3,h4,λx hx=>?_,h5⟩;have all:∀ {l:List (List Key×V)}{m:List (List Key×Addr×Value)},KT H l m->∀ x∈m,(tupleKind (di P w)).is h x.1 x.2.1:=by
  intro l m q;induction q with
  |nil=>intro x hx;exact nomatch hx
  |@cons p q ps qs hq t ih=>
   intro x hx;rcases Zao.mp hx with e|hx
   ·subst e;exact uD ok (by rw[<-hq.1];exact hq.2.1)
   ·exact ih x hx
 exact all r x hx
theorem QD{kvs:List (List Key×V)}(ok:HOk P w H h)(e:H a=some (.dT kvs)):kvs.length<=sizeLine/\(a==sysModules)=false /\
  ∃ xs,KT H kvs xs/\h.DictOfH (tupleKind (di P w)) a xs:=yM ok (.inl e)
end
def yj(H:Hp)(a:Addr)(y:V)(r:Option V):Prop:=
 (∃ kvs k,Rd H a (.dK kvs)/\y=kV k/\r=vD kvs k)\/∃ kvs k b,Rd H a (.dT kvs)/\y=.ref b/\H b=some (.tup (k.map kV))/\r=vD kvs k
def tM(H:Hp)(a:Addr)(y v:V)(H':Hp):Prop:=
 (∃ kvs k,H a=some (.dK kvs)/\y=kV k/\kvs.length<sizeLine/\H'=upd H a (.dK (putK kvs k v))) \/
 ∃ kvs k b,H a=some (.dT kvs)/\y=.ref b/\H b=some (.tup (k.map kV))/\kvs.length<sizeLine/\H'=upd H a (.dT (putK kvs k v))
theorem tM.k{H:Hp}{a:Addr}{kvs:List (Key×V)}{k:Key}{v:V}(e:H a=some (.dK kvs))(hl:kvs.length<sizeLine):tM H a (kV k) v (upd H a (.dK (putK kvs k v))):=.inl ⟨kvs,k,e,rfl,hl,rfl⟩
theorem tM.t{H:Hp}{a b:Addr}{kvs:List (List Key×V)}{k:List Key}{v:V}(e:H a=some (.dT kvs))(eb:H b=some (.tup (k.map kV)))(hl:kvs.length<sizeLine) :
  tM H a (.ref b) v (upd H a (.dT (putK kvs k v))):=.inr ⟨kvs,k,b,e,rfl,eb,hl,rfl⟩
section
variable{X:Cx}{pins:List (Addr×Obj)}{σ:St}{H:Hp}{s:Shared}{a:Addr}{y v:V}{u r:Value}{o:Option V}{A:Around}{E:Value->Shared->Prop}
theorem Inv.big(I:Inv X pins σ H s):sysModules<s.heap.objs.size:=by
 have h:mainGlobals<s.heap.objs.size:=(I.mod.glob.keeps I.bk).lt;exact Nat.lt_trans (by decide) h
theorem Jm{Q:Value->Shared->Prop}(hu:A.units+1<cLine)(I:Inv X pins σ H s)(g:yj H a y (some v))(ry:RelV y u)(h:∀ w' s',Inv X pins σ H s'->RelV v w'->Q w' s') :
  wpAny (model X.prog X.w) A (getItem (.ref a) u) Q E s:=by
 rcases g with⟨kvs,k,e,ey,l⟩|⟨kvs,k,b,e,ey,eb,l⟩
 ·subst ey;obtain⟨z,hd,vs,rel,dd⟩:=yL I.hok e;obtain⟨w',hw,rw'⟩:=vz.some_of (v:=v) (o:=valueAt vs k) (by rw[l];exact rel.val k)
  exact wpAny_getItem_of (yJ ry) dd.mapOf hw (h w' _ (I.tok _) rw')
 ·subst ey;cases (show u=Value.ref b from ry);obtain⟨z,hd,xs,rel,dd⟩:=yM I.hok e;obtain⟨w',hw,rw'⟩:=vz.some_of (v:=v) (o:=(atKey xs k).map (·.2)) (by rw[l];exact rel.val k)
  obtain⟨p,hp,hp2⟩:=Option.map_eq_some_iff.mp hw;refine wpAny_getItem_heap (tupleKind_room_in1 hu) (uD I.hok eb) dd hp ?_;rw[hp2];exact h w' _ (I.tok _) rw'
theorem Oe{Q:Value->Shared->Prop}(hu:A.units+1<cLine)(I:Inv X pins σ H s)(g:yj H a y o)(ry:RelV y u)(h:∀ s',Inv X pins σ H s'->Q (.bool (!o.isSome)) s') :
  wpAny (model X.prog X.w) A (compareOp .NotIn u (.ref a)) Q E s:=by
 rcases g with⟨kvs,k,e,ey,l⟩|⟨kvs,k,b,e,ey,eb,l⟩
 ·subst ey;obtain⟨z,hd,vs,rel,dd⟩:=yL I.hok e;refine wpAny_notIn_of (yJ ry) hd dd.mapOf ?_;rw[<-(rel.val k).uC,<-l];exact h _ (I.tok _)
 ·subst ey;cases (show u=Value.ref b from ry);obtain⟨z,hd,xs,rel,dd⟩:=yM I.hok e;refine wpAny_notIn_heap (tupleKind_room_in1 hu) (uD I.hok eb) hd dd ?_;have q:=(rel.val k).uC;rw[Option.isSome_map] at q;rw[<-q,<-l];exact h _ (I.tok _)
theorem vO{h':Heap}{t':Nat}{ob:HO}(I:Inv X pins σ H s)(mu:Mut (H a))(hs:Heap.SameBut a s.heap h')(he:∃ q,h'.get? a=some q)(new:d8 X.prog X.w (upd H a ob) h' a ob) :
  Inv X pins σ (upd H a ob) { s with heap:=h',toks:=t' }:=
 I.write (x:=a) (e:=a) mu (.inl rfl) (λb q hb z=>(hs.2 b hb).trans z) he new
theorem KD{P:Program}{w:World}{H':Hp}{h':Heap}{kvs:List (Key×V)}{vs:List (Key×Value)}(z:kvs.length<=sizeLine)(hd:(a==sysModules)=false)(rel:KV kvs vs)(dd:h'.DictOf (di P w) a vs) :
  d8 P w H' h' a (.dK kvs):=⟨z,hd,vs,rel,dd⟩
theorem Jo{H':Hp}{Q:Unit->Shared->Prop}(hu:A.units+1<cLine)(I:Inv X pins σ H s)(g:tM H a y v H')(ry:RelV y u)(rv:RelV v r)(h:∀ s',Inv X pins σ H' s'->Q () s') :
  wpAny (model X.prog X.w) A (setItem (.ref a) u r) Q E s:=by
 rcases g with⟨kvs,k,e,ey,l,eH⟩|⟨kvs,k,b,e,ey,eb,l,eH⟩
 ·subst ey eH;obtain⟨z,hd,vs,rel,dd⟩:=QC I.hok e;have hz:vs.length<=sizeLine:=by rw[<-rel.length];exact z
  have hl:(putK kvs k v).length<=sizeLine:=by have:=km kvs k v;lia
  refine wpAny_setItem_pairs (hsz:=hz) (yJ ry) dd λh' dd' hs=>h _ ?_;have he:∃ q,h'.get? a=some q:=let⟨q,_,_,hq,_⟩:=dd';⟨q,hq⟩;exact vO I (by rw[e];exact True.intro) hs he (KD hl hd (rel.put k rv) dd')
 ·subst ey eH;cases (show u=Value.ref b from ry);obtain⟨z,hd,xs,rel,dd⟩:=QD I.hok e;have hz:xs.length<=sizeLine:=by rw[<-Paired.length rel];exact z
  have hl:(putK kvs k v).length<=sizeLine:=by have:=km kvs k v;lia
  refine wpAny_setItem_heap (hsz:=hz) (tupleKind_room_in1 hu) (uD I.hok eb) dd λh' dd' hs=>h _ ?_;obtain⟨q,es,ep,hq,h2,h3,h4,_,h5⟩:=dd';refine vO I (by rw[e];exact True.intro) hs ⟨q,hq⟩ ⟨hl,hd,_,(rel.put k eb rv).keeps λc ys ec=>?_,q,es,ep,hq,h2,h3,h4,h5⟩
  rw[aU (Qo ec e (λz=>nomatch z))];exact ec
end
def Og(i:Expr):Prop:=∀ ov iv,subscripted i false ov iv=operate [ov,iv] (getItem ov iv)
theorem Oh{prog:Program}{w:World}{A:Around}{E:Value->Shared->Prop}{s:Shared}{env:Env}{value slice:Expr}{pos:Pos}{T id:String}{Q:Value->Shared->Prop}
  (hl:typeLookup (.type T) "__getitem__"=pure (some (.builtin id)))(hs:Og slice)
  (h:wpAny (model prog w) A (eval value env) (λo s₁=>wpAny (model prog w) A (eval slice env) (λi s₂=>s₂.TypeIs o T/\wpAny (model prog w) A (getItem o i) Q E s₂) E s₁) E s) :
  wpAny (model prog w) A (eval (.Subscript value slice pos) env) Q E s:=by
 refine Subscript_ (ZaY h (λo s₁ h₁=>ZaY h₁ (λi s₂ h₂=>?_) λ_ _ x=>x) λ_ _ x=>x);obtain⟨hT,h₂⟩:=h₂;unfold subscriptTail;refine Zah ?_;rw[getitemInPython_of_ne hT.not_modules];refine Zah (wpAny_specialOf hT hl ?_);have fin:wpAny (model prog w) A (subscripted slice false o i) (λr s₃=>wpAny (model prog w) A (letTemporaryGo value o r>>=λ_=>pure r) Q E s₃) E s₂:=by
  rw[hs o i];exact wpAny_operating (ZaY h₂ (λr s₃ h₃=>Zah (wpAny_letTemporaryGo (Zaw h₃))) λ_ _ x=>x)
 first
  |exact Zaw (Zah fin)
  |exact Zah (Zaw (Zah fin))
  |exact Zah fin
theorem Ca{X:Cx}{pins:List (Addr×Obj)}{σ:St}{H:Hp}{s:Shared}{a:Addr}{y:V}{o:Option V}(I:Inv X pins σ H s)(g:yj H a y o):s.TypeIs (.ref a) "dict":=by
 rcases g with⟨kvs,k,e,_,_⟩|⟨kvs,k,b,e,_,_,_⟩
 ·obtain⟨_,_,vs,_,dd⟩:=yL I.hok e;exact dd.typeIs
 ·obtain⟨_,_,xs,_,dd⟩:=yM I.hok e;exact dd.typeIs
def Hj(td ty:TE):TE:=λσ H Q=>td σ H λx H1=>ty σ H1 λy H2=>∃ a v,x=.ref a/\yj H2 a y (some v)/\Q v H2
def QF(td ty tv:TE):TS:=λD σ H=>tv σ H λv H1=>td σ H1 λx H2=>ty σ H2 λy H3=>∃ a H4,x=.ref a/\tM H3 a y v H4/\D.nx σ H4
section
variable{X:Cx}{o i value:Expr}{pos pos':Pos}{td ty tv:TE}
theorem Hk(hu:X.A.units+1<cLine)(ho:PE X o td)(hi:PE X i ty)(hs:Og i):PE X (.Subscript o i pos) (Hj td ty):=by
 intro pins s σ H Q I h;refine Oh PySem.F.slot_dict_getitem.lookup hs (thn (ho pins s σ H _ I h) λu s1 ⟨x,H1,I1,rx,q1⟩=>thn (hi pins s1 σ H1 _ I1 q1) ?_);rintro iv s2 ⟨y,H2,I2,ry,a,v,ex,g,q2⟩;subst ex;obtain rfl:u=Value.ref a:=rx;exact⟨Ca I2 g,Jm hu I2 g ry λw' s3 I3 rw'=>⟨v,H2,I3,rw',q2⟩⟩
theorem vP(hu:X.A.units+1<cLine)(ho:PE X o td)(hi:PE X i ty)(hv:PE X value tv)(hs:swapsWith value (some (.Subscript o i pos')) pos.line X.env=pure false) :
  PS X (.Assign [.Subscript o i pos'] value pos) (QF td ty tv):=by
 intro pins s σ H D I h;refine wpAny_Assign_Subscript (thn (hv pins s σ H _ I h) λr s1 ⟨v,H1,I1,rv,q1⟩=>thn (ho pins s1 σ H1 _ I1 q1) λu s2 ⟨x,H2,I2,rx,q2⟩=>thn (hi pins s2 σ H2 _ I2 q2) ?_) hs;rintro iv s3 ⟨y,H3,I3,ry,a,H4,ex,g,q3⟩;subst ex;obtain rfl:u=Value.ref a:=rx;exact Jo hu I3 g ry rv λs4 I4=>⟨σ,H4,I4,q3⟩
end
theorem Cd{P:Program}{w:World}{H:Hp}(h:Heap)(hb:sysModules<h.objs.size):d8 P w H (h.push { cls:=.type "dict",data:=.dict #[] }) h.objs.size (.dK []):=
 ⟨Zbg _,beq_eq_false_iff_ne.mpr (Za0 (ZaF hb)),[],.nil,Heap.DictOf.new h⟩
theorem Ce{P:Program}{w:World}{H:Hp}(h:Heap)(hb:sysModules<h.objs.size):d8 P w H (h.push { cls:=.type "dict",data:=.dict #[] }) h.objs.size (.dT []):=
 ⟨Zbg _,beq_eq_false_iff_ne.mpr (Za0 (ZaF hb)),[],.nil,_,#[],0,Zau _ rfl,⟨rfl,rfl,rfl⟩,rfl,rfl,List.nodup_nil⟩
def KH:TE:=λ_ H Q=>∀ p,H p=none->Q (.ref p) (upd H p (.dK []))
def KJ:TE:=λ_ H Q=>∀ p,H p=none->Q (.ref p) (upd H p (.dT []))
section
variable{X:Cx}{pos:Pos}
theorem wF:PE X (.Dict [] [] pos) KH:=λpins s σ H Q I h=>
 wpAny_Dict_empty ⟨.ref s.heap.objs.size,_,I.laid (a:=s.heap.objs.size) (o:=.dK []) (t':=s.toks) (λ_ _ q=>Zaf _ q) (Zag _) (Cd s.heap I.big),rfl,h _ (I.hok.fresh (Zag _))⟩
theorem KN:PE X (.Dict [] [] pos) KJ:=λpins s σ H Q I h=>
 wpAny_Dict_empty ⟨.ref s.heap.objs.size,_,I.laid (a:=s.heap.objs.size) (o:=.dT []) (t':=s.toks) (λ_ _ q=>Zaf _ q) (Zag _) (Ce s.heap I.big),rfl,h _ (I.hok.fresh (Zag _))⟩
end
def KQ:List (TE×TE)->St->Hp->(List (V×V)->Hp->Prop)->Prop
 |[],_,H,Q=>Q [] H
 |(tk,tv)::r,σ,H,Q=>tk σ H λx H1=>tv σ H1 λy H2=>KQ r σ H2 λps H3=>Q ((x,y)::ps) H3
noncomputable abbrev VV:List (V×V)->List (Value×Value)->Prop:=Paired λp q=>RelV p.1 q.1/\RelV p.2 q.2
def PPs(X:Cx)(pos:Pos)(keys:List (Option Expr))(values:List Expr)(trs:List (TE×TE)):Prop:=
 ∀ (pins:List (Addr×Obj)) (s:Shared) (σ:St) (H:Hp) (Q:List (V×V)->Hp->Prop),Inv X pins σ H s->KQ trs σ H Q ->
  wpAny (model X.prog X.w) X.A (evalPairs (pairTrees keys values X.env pos)) (λvs s'=>∃ ps H',Inv X pins σ H' s'/\VV ps vs/\Q ps H') X.xe s
structure M2(X:Cx)(o:Expr)(m:Str)(apos:Pos)(e f:Expr)(cpos:Pos):Prop where
 base:attributeBase o m X.env (eval o X.env)=eval o X.env
 few:((backTo cpos (starEach [e,f] X.env)).all (λx=>!x.1)&&(backToKw cpos (keywordEach [] X.env)).all (λx=>x.1.isSome)
  && decide (([e,f]:List Expr).length+([]:List Keyword).length+(if([]:List Keyword).isEmpty then 0 else 1)<30))=true
 line:(apos.endLine==cpos.line)=true
 trees:backTo cpos (starEach [e,f] X.env)=[(false,eval e X.env),(false,eval f X.env)]
def IsD(H:Hp)(a:Addr):Prop:=(∃ kvs,Rd H a (.dK kvs))\/∃ kvs,Rd H a (.dT kvs)
theorem Rx{X:Cx}{pins:List (Addr×Obj)}{σ:St}{H:Hp}{s:Shared}{a:Addr}(I:Inv X pins σ H s)(d:IsD H a) :
  s.TypeIs (.ref a) "dict"/\(∀ b,Value.ref a=.ref b->∃ ob,s.heap.get? b=some ob/\ob.dict=none)/\(a==sysModules)=false:=by
 rcases d with⟨kvs,e⟩|⟨kvs,e⟩
 ·obtain⟨_,hd,vs,_,dd⟩:=yL I.hok e;refine⟨dd.typeIs,λb q=>?_,hd⟩;cases q;obtain⟨ob,_,_,h1,h2,_⟩:=dd;exact⟨ob,h1,h2.2.1⟩
 ·obtain⟨_,hd,xs,_,dd⟩:=yM I.hok e;refine⟨dd.typeIs,λb q=>?_,hd⟩;cases q;obtain⟨ob,_,_,h1,h2,_⟩:=dd;exact⟨ob,h1,h2.2.1⟩
section
variable{X:Cx}{pins:List (Addr×Obj)}{σ:St}{H:Hp}{s:Shared}{a:Addr}{y d:V}{u r:Value}{o:Option V}{A:Around}{E:Value->Shared->Prop}
theorem Ry{Q:Value->Shared->Prop}(hu:A.units+1<cLine)(I:Inv X pins σ H s)(g:yj H a y o)(ry:RelV y u)(rd:RelV d r)(h:∀ w' s',Inv X pins σ H s'->RelV (o.getD d) w'->Q w' s') :
  wpAny (model X.prog X.w) A (call (.builtin "dict.get") [.ref a,u,r]) Q E s:=by
 rcases g with⟨kvs,k,e,ey,l⟩|⟨kvs,k,b,e,ey,eb,l⟩
 ·subst ey;obtain⟨z,hd,vs,rel,dd⟩:=yL I.hok e;refine call_meetsIn PySem.F.slot_dict_get dd.typeIs PySem.F.entry_dict_get (PySem.F.args_dict_get_3 _ _ _) (meets_dict_get_default (di X.prog X.w) a (yJ ry) hd r) ⟨_,dd.mapOf,h _ _ (I.tok _) ?_⟩;rw[l];exact(rel.val k).getD rd
 ·subst ey;cases (show u=Value.ref b from ry);obtain⟨z,hd,xs,rel,dd⟩:=yM I.hok e;refine call_meetsIn PySem.F.slot_dict_get dd.typeIs PySem.F.entry_dict_get (PySem.F.args_dict_get_3 _ _ _) (meetsH_dict_get_default (tupleKind (di X.prog X.w)) a b hd r) ⟨tupleKind_room_in1 hu,k,xs,uD I.hok eb,dd,h _ _ (I.tok _) ?_⟩;rw[l];exact(rel.val k).getD rd
end
def zH(td ty tx:TE):TE:=λσ H Q=>td σ H λx H1=>∃ a,x=.ref a/\IsD H1 a/\ty σ H1 λy H2=>tx σ H2 λz H3=>∃ o,yj H3 a y o/\Q (o.getD z) H3
section
variable{X:Cx}{o e f:Expr}{apos cpos:Pos}{td ty tx:TE}
theorem Ci(hu:X.A.units+1<cLine)(ho:PE X o td)(he:PE X e ty)(hf:PE X f tx)(m:M2 X o "get" apos e f cpos):PE X (.Call (.Attribute o "get" apos) [e,f] [] cpos) (zH td ty tx):=by
 intro pins s σ H Q I h;refine wpAny_Call_method m.base m.few m.line PySem.F.plainAttrs_dict PySem.F.slot_dict_get PySem.F.type_dict_get (thn (ho pins s σ H _ I h) ?_);rintro u s1 ⟨x,H1,I1,rx,a,ex,d,q1⟩;subst ex;obtain rfl:u=Value.ref a:=rx;obtain⟨t1,t2,_⟩:=Rx I1 d;refine⟨t1,t2,?_⟩;rw[m.trees];refine Calls.callWith_builtin rfl (Calls.evalArgs_plain (Calls.spliced_cons (thn (he pins s1 σ H1 _ I1 q1) λiv s2 ⟨y,H2,I2,ry,q2⟩=>
  Calls.spliced_cons (thn (hf pins s2 σ H2 _ I2 q2) λfv s3 ⟨z,H3,I3,rz,ov,g,q3⟩=>Calls.spliced_nil ?_))))
 exact Ry hu I3 g ry rz λw' s4 I4 rw'=>⟨_,H3,I4,rw',q3⟩
end
end L2
namespace L2.MP
open PySem PySem.Spec PyProof.Rows
inductive PV where
 |non|bl (b:Bool)|int (i:Int)|str (x:Str)|ty (n:String)
 |tup (l:List PV)|lst (l:List PV)|dk (l:List (Key×PV))|dt (l:List (List Key×PV))
 |exc (c:Str) (fs:List (Str×PV))
noncomputable instance:Inhabited PV:=⟨.non⟩
def PV.flat:PV->Bool
 |.non|.bl _|.int _|.str _|.ty _=>true
 |_=>false
def KR:Nat->PV->Bool
 |0,p=>p.flat
 |n+1,.tup l=>l.all (KR n)
 |_+1,p=>p.flat
def PV.still(p:PV):Bool:=KR 5 p
inductive Res(α:Type) where
 |ok (a:α)|ex (z:PV)
def bnd{α β:Type}(x:Option (Res α))(k:α->Option (Res β)):Option (Res β):=match x with
 |some (.ok a)=>k a
 |some (.ex z)=>some (.ex z)
 |none=>none
def XO(e C:Addr)(d:Option Addr):HO:=.ext λh=>∃ vs:Array Value,h.get? e=some { cls:=.ref C,dict:=d,data:=.fields vs }
structure XNm(K:Frag)(C:Addr)(c:Str):Prop where
 ns:nsIn K mainGlobals c=some (some (.ref C))
 cl:∃ cd,PySem.W.clsIn K C=some cd/\cd.name=c
inductive Rep(K:Frag)(F:Hp):V->PV->Prop
 |non:Rep K F .non .non
 |bl {b:Bool}:Rep K F (.bl b) (.bl b)
 |int {i:Int}:Rep K F (.int i) (.int i)
 |str {x:Str}:Rep K F (.str x) (.str x)
 |ty {n:String}:Rep K F (.ty n) (.ty n)
 |tup {a:Addr}{xs:List V}{l:List PV} (h:F a=some (.tup xs)) (hl:xs.length=l.length) (hr:∀ (j:Nat) x p,xs[j]?=some x->l[j]?=some p->Rep K F x p):Rep K F (.ref a) (.tup l)
 |lst {a:Addr}{xs:List V}{l:List PV} (h:SqL K F a xs) (hl:xs.length=l.length) (hr:∀ (j:Nat) x p,xs[j]?=some x->l[j]?=some p->Rep K F x p):Rep K F (.ref a) (.lst l)
 |dk {a:Addr}{xs:List (Key×V)}{l:List (Key×PV)} (h:Rd F a (.dK xs)) (hl:xs.map (·.1)=l.map (·.1)) (hr:∀ (j:Nat) x p,xs[j]?=some x->l[j]?=some p->Rep K F x.2 p.2):Rep K F (.ref a) (.dk l)
 |dt {a:Addr}{xs:List (List Key×V)}{l:List (List Key×PV)} (h:Rd F a (.dT xs)) (hl:xs.map (·.1)=l.map (·.1)) (hr:∀ (j:Nat) x p,xs[j]?=some x->l[j]?=some p->Rep K F x.2 p.2):Rep K F (.ref a) (.dt l)
 |exc {a C dx:Addr}{c:Str}{xs:List (Str×V)}{l:List (Str×PV)} (nm:XNm K C c) (h:F a=some (XO a C (some dx))) (hd:F dx=some (.xd xs)) (hl:xs.map (·.1)=l.map (·.1)) (hr:∀ (j:Nat) x p,xs[j]?=some x->l[j]?=some p->Rep K F x.2 p.2):Rep K F (.ref a) (.exc c l)
 |exc0 {a C:Addr}{c:Str} (nm:XNm K C c) (h:F a=some (XO a C none)):Rep K F (.ref a) (.exc c [])
def bW(K:Frag)(F:Hp)(xs:List V)(l:List PV):Prop:=xs.length=l.length/\∀ (j:Nat) x p,xs[j]?=some x->l[j]?=some p->Rep K F x p
section
variable{K:Frag}{F F':Hp}{v:V}{p:PV}{xs ys:List V}{l m:List PV}
theorem _root_.L2.Rd.same{F F':Hp}{a:Addr}{u:HO}(h:Rd F a u)(s:bf F F'):Rd F' a u:=h.imp (s _ _) λ⟨o,e⟩=>⟨o,s _ _ e⟩
theorem Rep.up(h:Rep K F v p)(s:bf F F'):Rep K F' v p:=by
 induction h with
 |non=>exact .non
 |bl=>exact .bl
 |int=>exact .int
 |str=>exact .str
 |ty=>exact .ty
 |tup h hl _ ih=>exact .tup (s _ _ h) hl ih
 |lst h hl _ ih=>exact .lst (s.seq h) hl ih
 |dk h hl _ ih=>exact .dk (h.same s) hl ih
 |dt h hl _ ih=>exact .dt (h.same s) hl ih
 |exc nm h hd hl _ ih=>exact .exc nm (s _ _ h) (s _ _ hd) hl ih
 |exc0 nm h=>exact .exc0 nm (s _ _ h)
theorem bW.up(h:bW K F xs l)(s:bf F F'):bW K F' xs l:=⟨h.1,λj x p a b=>(h.2 j x p a b).up s⟩
theorem Rep.free(h:Rep K F v p)(hf:p.flat=true):Rep K F' v p:=by
 cases h with
 |non=>exact .non
 |bl=>exact .bl
 |int=>exact .int
 |str=>exact .str
 |ty=>exact .ty
 |tup=>cases hf
 |lst=>cases hf
 |dk=>cases hf
 |dt=>cases hf
 |exc=>cases hf
 |exc0=>cases hf
theorem bW.nil:bW K F [] []:=⟨rfl,λj x p h=>by simp at h⟩
theorem bW.cons(h:Rep K F v p)(t:bW K F xs l):bW K F (v::xs) (p::l):=by
 refine⟨by simp[t.1],λj x q a b=>?_⟩
 cases j with
 |zero=>simp at a b;subst a b;exact h
 |succ j=>exact t.2 j x q (by simpa using a) (by simpa using b)
theorem bW.append(h:bW K F xs l)(t:bW K F ys m):bW K F (xs++ys) (l++m):=by
 refine⟨by rw[List.length_append,List.length_append,h.1,t.1],λj x p a b=>?_⟩
 by_cases hj:j<xs.length
 ·rw[Zat hj] at a;rw[Zat (by rw[<-h.1];exact hj)] at b
  exact h.2 j x p a b
 ·rw[Zaz (by lia)] at a
  rw[Zaz (by rw[<-h.1];lia),<-h.1] at b
  exact t.2 _ x p a b
theorem bW.snoc(h:bW K F xs l)(t:Rep K F v p):bW K F (xs++[v]) (l++[p]):=h.append (bW.nil.cons t)
theorem bW.get(h:bW K F xs l){j:Nat}(e:l[j]?=some p):∃ x,xs[j]?=some x/\Rep K F x p:=by
 have hj:j<xs.length:=by rw[h.1];exact(Zar.mp e).1
 exact⟨xs[j],by simp[hj],h.2 j _ p (by simp[hj]) e⟩
theorem bW.got(h:bW K F xs l){j:Nat}(e:xs[j]?=some v):∃ p,l[j]?=some p/\Rep K F v p:=by
 have hj:j<l.length:=by rw[<-h.1];exact(Zar.mp e).1
 exact⟨l[j],by simp[hj],h.2 j v _ e (by simp[hj])⟩
theorem bW.take(h:bW K F xs l)(n:Nat):bW K F (xs.take n) (l.take n):=by
 refine⟨by simp[h.1],λj x p a b=>?_⟩
 rw[List.getElem?_take] at a b;split at a
 ·rename_i hj;rw[Zan hj] at b;exact h.2 j x p a b
 ·cases a
theorem bW.drop(h:bW K F xs l)(n:Nat):bW K F (xs.drop n) (l.drop n):=by
 refine⟨by simp[h.1],λj x p a b=>?_⟩
 rw[List.getElem?_drop] at a b;exact h.2 _ x p a b
theorem bW.fJ(h:bW K F xs (p::l)):∃ v ys,xs=v::ys/\Rep K F v p/\bW K F ys l:=by
 obtain⟨hl,hr⟩:=h
 match xs,hl,hr with
 |[],hl,_=>simp at hl
 |v::ys,hl,hr=>exact⟨v,ys,rfl,hr 0 v p rfl rfl,by simpa using hl,λj x q a b=>hr (j+1) x q (by simpa using a) (by simpa using b)⟩
theorem bW.jA(h:bW K F xs []):xs=[]:=by
 have:=h.1;simpa using this
theorem bW.zJ:∀ (ns:List Int),bW K F (ns.map V.int) (ns.map PV.int)
 |[]=>.nil
 |n::ns=>(bW.zJ ns).cons .int
theorem Rep.bI{i:Int}(h:Rep K F v (.int i)):v=.int i:=by cases h;rfl
theorem Rep.fY{b:Bool}(h:Rep K F v (.bl b)):v=.bl b:=by cases h;rfl
theorem Rep.cu{z:Str}(h:Rep K F v (.str z)):v=.str z:=by cases h;rfl
theorem Rep.fD(h:Rep K F v .non):v=.non:=by cases h;rfl
theorem Rep.Rz{n:String}(h:Rep K F v (.ty n)):v=.ty n:=by cases h;rfl
theorem Rep.dz(h:Rep K F v (.tup l)):∃ a xs,v=.ref a/\SqT K F a xs/\bW K F xs l:=by cases h with|tup h hl hr=>exact⟨_,_,rfl,SqT.of h,hl,hr⟩
theorem Rep.wG(h:Rep K F v (.tup l)):∃ a xs,v=.ref a/\F a=some (.tup xs)/\bW K F xs l:=by cases h with|tup h hl hr=>exact⟨_,_,rfl,h,hl,hr⟩
theorem Rep.cN(h:Rep K F v (.lst l)):∃ a xs,v=.ref a/\SqL K F a xs/\bW K F xs l:=by cases h with|lst h hl hr=>exact⟨_,_,rfl,h,hl,hr⟩
end
structure Cf where
 io:Addr->Prop
 nw:Prop
 H0:Hp
 F0:Hp
 E:XK
inductive Sl where
 |sh (p:PV)|ow (p:PV)|dp (p:PV)
noncomputable abbrev Rho:=List (Option Sl)
def Own(K:Frag)(F H:Hp)(a:Addr):PV->Prop
 |.lst l=>∃ xs,H a=some (.lst xs)/\bW K F xs l
 |.dk l=>∃ xs,H a=some (.dK xs)/\xs.map (·.1)=l.map (·.1)/\∀ (j:Nat) x p,xs[j]?=some x->l[j]?=some p->Rep K F x.2 p.2
 |.dt l=>∃ xs,H a=some (.dT xs)/\xs.map (·.1)=l.map (·.1)/\∀ (j:Nat) x p,xs[j]?=some x->l[j]?=some p->Rep K F x.2 p.2
 |_=>False
inductive Dp(K:Frag)(F H:Hp):(Addr->Prop)->V->PV->Prop
 |fr {P:Addr->Prop}{v:V}{p:PV} (h:Rep K F v p) (st:p.still=true):Dp K F H P v p
 |lst {P:Addr->Prop}{S:Nat->Addr->Prop}{a:Addr}{xs:List V}{l:List PV} (h:H a=some (.lst xs)) (hp:P a) (hs:∀ j b,S j b->P b/\b≠a) (dj:∀ i j b,S i b->S j b->i=j) (hl:xs.length=l.length)
   (hr:∀ (j:Nat) x p,xs[j]?=some x->l[j]?=some p->Dp K F H (S j) x p):Dp K F H P (.ref a) (.lst l)
 |tup {P:Addr->Prop}{S:Nat->Addr->Prop}{a:Addr}{xs:List V}{l:List PV} (h:H a=some (.tup xs)) (hs:∀ j b,S j b->P b) (dj:∀ i j b,S i b->S j b->i=j) (hl:xs.length=l.length)
   (hr:∀ (j:Nat) x p,xs[j]?=some x->l[j]?=some p->Dp K F H (S j) x p):Dp K F H P (.ref a) (.tup l)
 |dk {P:Addr->Prop}{S:Nat->Addr->Prop}{a:Addr}{xs:List (Key×V)}{l:List (Key×PV)} (h:H a=some (.dK xs)) (hp:P a) (hs:∀ j b,S j b->P b/\b≠a) (dj:∀ i j b,S i b->S j b->i=j) (hl:xs.map (·.1)=l.map (·.1))
   (hr:∀ (j:Nat) x p,xs[j]?=some x->l[j]?=some p->Dp K F H (S j) x.2 p.2):Dp K F H P (.ref a) (.dk l)
 |dt {P:Addr->Prop}{S:Nat->Addr->Prop}{a:Addr}{xs:List (List Key×V)}{l:List (List Key×PV)} (h:H a=some (.dT xs)) (hp:P a) (hs:∀ j b,S j b->P b/\b≠a) (dj:∀ i j b,S i b->S j b->i=j) (hl:xs.map (·.1)=l.map (·.1))
   (hr:∀ (j:Nat) x p,xs[j]?=some x->l[j]?=some p->Dp K F H (S j) x.2 p.2):Dp K F H P (.ref a) (.dt l)
section
variable{K:Frag}{F F' H H':Hp}{v:V}{p:PV}{P P':Addr->Prop}
theorem Dp.mono(h:Dp K F H P v p)(m:∀ b,P b->P' b):Dp K F H P' v p:=by
 cases h with
 |fr h st=>exact .fr h st
 |lst h hp hs dj hl hr=>exact .lst h (m _ hp) (λj b q=>⟨m _ (hs j b q).1,(hs j b q).2⟩) dj hl hr
 |tup h hs dj hl hr=>exact .tup h (λj b q=>m _ (hs j b q)) dj hl hr
 |dk h hp hs dj hl hr=>exact .dk h (m _ hp) (λj b q=>⟨m _ (hs j b q).1,(hs j b q).2⟩) dj hl hr
 |dt h hp hs dj hl hr=>exact .dt h (m _ hp) (λj b q=>⟨m _ (hs j b q).1,(hs j b q).2⟩) dj hl hr
theorem Dp.up(h:Dp K F H P v p)(sf:bf F F')(sh:∀ b o,P b->H b=some o->H' b=some o)(ht:∀ b ys,H b=some (.tup ys)->H' b=some (.tup ys)):Dp K F' H' P v p:=by
 induction h with
 |fr h st=>exact .fr (h.up sf) st
 |lst h hp hs dj hl _ ih=>exact .lst (sh _ _ hp h) hp hs dj hl λj x p e1 e2=>ih j x p e1 e2 λb o q=>sh b o (hs j b q).1
 |tup h hs dj hl _ ih=>exact .tup (ht _ _ h) hs dj hl λj x p e1 e2=>ih j x p e1 e2 λb o q=>sh b o (hs j b q)
 |dk h hp hs dj hl _ ih=>exact .dk (sh _ _ hp h) hp hs dj hl λj x p e1 e2=>ih j x p e1 e2 λb o q=>sh b o (hs j b q).1
 |dt h hp hs dj hl _ ih=>exact .dt (sh _ _ hp h) hp hs dj hl λj x p e1 e2=>ih j x p e1 e2 λb o q=>sh b o (hs j b q).1
theorem Dp.seen(h:Dp K F H P v p)(sf:bf F F')(sh:∀ b o,P b->H b=some o->F' b=some o)(ht:∀ b ys,H b=some (.tup ys)->F' b=some (.tup ys)):Rep K F' v p:=by
 induction h with
 |fr h st=>exact h.up sf
 |lst h hp hs dj hl _ ih=>exact .lst (SqL.of (sh _ _ hp h)) hl λj x p e1 e2=>ih j x p e1 e2 λb o q=>sh b o (hs j b q).1
 |tup h hs dj hl _ ih=>exact .tup (ht _ _ h) hl λj x p e1 e2=>ih j x p e1 e2 λb o q=>sh b o (hs j b q)
 |dk h hp hs dj hl _ ih=>exact .dk (.inl (sh _ _ hp h)) hl λj x p e1 e2=>ih j x p e1 e2 λb o q=>sh b o (hs j b q).1
 |dt h hp hs dj hl _ ih=>exact .dt (.inl (sh _ _ hp h)) hl λj x p e1 e2=>ih j x p e1 e2 λb o q=>sh b o (hs j b q).1
end
structure RD(K:Frag)(C:Cf)(F H:Hp)(σ:St)(ρ:Rho)(P:Nat->Addr->Prop):Prop where
 own:∀ i b,P i b->F b=none/\(∃ o,H b=some o/\∀ ys,o≠.tup ys)/\C.nw/\C.H0 b=none
 dis:∀ i j b,P i b->P j b->i=j
 ow:∀ (i j:Nat) q b,P i b->ρ[j]?=some (some (.ow q))->σ[j]?≠some (some (.ref b))
 dp:∀ (i:Nat) p,ρ[i]?=some (some (.dp p))->∃ v,σ[i]?=some (some v)/\Dp K F H (P i) v p
theorem RD.no{K:Frag}{C:Cf}{F H:Hp}{σ:St}{ρ:Rho}(h:∀ (i:Nat) p,ρ[i]?≠some (some (.dp p))):RD K C F H σ ρ (λ_ _=>False):=
 ⟨λ_ _ q=>q.elim,λ_ _ _ q=>q.elim,λ_ _ _ _ q=>q.elim,λi p e=>absurd e (h i p)⟩
def Frz(H:Hp)(b:Addr)(o:HO):Prop:=H b=none\/∃ ys,o=.tup ys
structure RB(C:Cf)(F H:Hp):Prop where
 sub:bf F H
 keep:∀ b o,C.H0 b=some o->¬C.io b->H b=some o
 new:∀ b o,F b=some o->C.F0 b=some o\/Frz C.H0 b o
 ios:∀ b,C.io b->H b≠none/\C.H0 b≠none
structure RE(K:Frag)(C:Cf)(F H:Hp)(σ:St)(ρ:Rho):Prop where
 rb:RB C F H
 len:σ.length=ρ.length
 sh:∀ (i:Nat) p,ρ[i]?=some (some (.sh p))->∃ v,σ[i]?=some (some v)/\Rep K F v p
 ow:∀ (i:Nat) p,ρ[i]?=some (some (.ow p))->∃ a,σ[i]?=some (some (.ref a))/\Own K F H a p/\F a=none/\(C.io a\/(C.nw/\C.H0 a=none))
 dis:∀ (i j:Nat) p q a,ρ[i]?=some (some (.ow p))->ρ[j]?=some (some (.ow q))->σ[i]?=some (some (.ref a))->σ[j]?=some (some (.ref a))->i=j
 dd:∃ P,RD K C F H σ ρ P
structure Up(F H F' H':Hp):Prop where
 ff:bf F F'
 hh:bf H H'
 fr:∀ b o,F' b=some o->F b=some o\/Frz H b o
 fh:bf F' H'
section
variable{K:Frag}{C:Cf}{F F1 F2 F' H H1 H2 H':Hp}{σ:St}{ρ:Rho}{a:Addr}{p:PV}{v:V}
theorem Up.refl(s:bf F H):Up F H F H:=⟨bf.refl _,bf.refl _,λ_ _ h=>.inl h,s⟩
theorem Up.trans(a:Up F H F1 H1)(b:Up F1 H1 F2 H2):Up F H F2 H2:=
 ⟨a.ff.trans b.ff,a.hh.trans b.hh,λc o h=>(b.fr c o h).elim (a.fr c o) λn=>.inr (n.imp (λn=>a.hh.free n) id),b.fh⟩
theorem Own.ne(h:Own K F H a p):∃ o,H a=some o:=by
 cases p with
 |lst l=>obtain⟨xs,e,_⟩:=h;exact⟨_,e⟩
 |dk l=>obtain⟨xs,e,_⟩:=h;exact⟨_,e⟩
 |dt l=>obtain⟨xs,e,_⟩:=h;exact⟨_,e⟩
 |_=>exact h.elim
theorem Own.Cj{ys:List V}(h:Own K F H a p)(e:H a=some (.tup ys)):False:=by
 cases p with
 |lst l=>obtain⟨xs,e',_⟩:=h;rw[e] at e';cases e'
 |dk l=>obtain⟨xs,e',_⟩:=h;rw[e] at e';cases e'
 |dt l=>obtain⟨xs,e',_⟩:=h;rw[e] at e';cases e'
 |_=>exact h.elim
theorem RD.up{P:Nat->Addr->Prop}(d:RD K C F H σ ρ P)(u:Up F H F' H'):RD K C F' H' σ ρ P where
 own:=λi b q=>by
  obtain⟨a1,⟨o',a2,a3⟩,a4⟩:=d.own i b q;refine⟨?_,⟨o',u.hh _ _ a2,a3⟩,a4⟩;cases e:F' b with
  |none=>rfl
  |some o=>
   rcases u.fr b o e with z|z|⟨ys,z⟩
   ·rw[a1] at z;cases z
   ·rw[a2] at z;cases z
   ·subst z;have w:=u.fh _ _ e;rw[u.hh _ _ a2] at w;cases w;exact absurd rfl (a3 ys)
 dis:=d.dis
 ow:=d.ow
 dp:=λi p e=>let⟨v,e1,e2⟩:=d.dp i p e;⟨v,e1,e2.up u.ff (λb o _ q=>u.hh b o q) λb ys q=>u.hh b _ q⟩
theorem Own.up(h:Own K F H a p)(sf:bf F F')(sh:∀ o,H a=some o->H' a=some o):Own K F' H' a p:=by
 cases p with
 |lst l=>obtain⟨xs,e,r⟩:=h;exact⟨xs,sh _ e,r.up sf⟩
 |dk l=>obtain⟨xs,e,r,q⟩:=h;exact⟨xs,sh _ e,r,λj x p a b=>(q j x p a b).up sf⟩
 |dt l=>obtain⟨xs,e,r,q⟩:=h;exact⟨xs,sh _ e,r,λj x p a b=>(q j x p a b).up sf⟩
 |_=>exact h.elim
theorem Own.frozen(h:Own K F H a p)(hn:F a=none):∃ o,H a=some o/\Rep K (upd F a o) (.ref a) p:=by
 have s:∀ o,bf F (upd F a o):=λo=>d9 hn;cases p with
 |lst l=>obtain⟨xs,e,r⟩:=h;exact⟨_,e,.lst (SqL.of aX) r.1 (r.up (s _)).2⟩
 |dk l=>obtain⟨xs,e,r,q⟩:=h;exact⟨_,e,.dk (.inl aX) r λj x p a b=>(q j x p a b).up (s _)⟩
 |dt l=>obtain⟨xs,e,r,q⟩:=h;exact⟨_,e,.dt (.inl aX) r λj x p a b=>(q j x p a b).up (s _)⟩
 |_=>exact h.elim
theorem Own.lent(h:Own K F H a p)(s:bf F H):Rep K H (.ref a) p:=by
 cases p with
 |lst l=>obtain⟨xs,e,r⟩:=h;exact .lst (SqL.of e) r.1 (r.up s).2
 |dk l=>obtain⟨xs,e,r,q⟩:=h;exact .dk (.inl e) r λj x p a b=>(q j x p a b).up s
 |dt l=>obtain⟨xs,e,r,q⟩:=h;exact .dt (.inl e) r λj x p a b=>(q j x p a b).up s
 |_=>exact h.elim
theorem RB.up(h:RB C F H)(u:Up F H F' H'):RB C F' H' where
 sub:=u.fh
 keep:=λb o e n=>u.hh _ _ (h.keep b o e n)
 new:=λb o e=>(u.fr b o e).elim (h.new b o) λn=>.inr (n.imp (λn=>by
  cases q:C.H0 b with
  |none=>rfl
  |some o'=>
   by_cases hi:C.io b
   ·exact absurd n (h.ios b hi).1
   ·rw[h.keep b o' q hi] at n;cases n) id)
 ios:=λb hb=>⟨λn=>(h.ios b hb).1 (u.hh.free n),(h.ios b hb).2⟩
theorem RB.u6(h:RB C F H){b:Addr}(n:H b=none):C.H0 b=none:=by
 cases q:C.H0 b with
 |none=>rfl
 |some o'=>
  by_cases hi:C.io b
  ·exact absurd n (h.ios b hi).1
  ·rw[h.keep b o' q hi] at n;cases n
theorem RE.up(h:RE K C F H σ ρ)(u:Up F H F' H'):RE K C F' H' σ ρ where
 rb:=h.rb.up u
 len:=h.len
 sh:=λi p e=>let⟨v,e1,e2⟩:=h.sh i p e;⟨v,e1,e2.up u.ff⟩
 ow:=λi p e=>by
  obtain⟨a,e1,e2,e3,e4⟩:=h.ow i p e;refine⟨a,e1,e2.up u.ff λo q=>u.hh _ _ q,?_,e4⟩;cases q:F' a with
  |none=>rfl
  |some o=>
   obtain⟨o',eo⟩:=e2.ne;rcases u.fr a o q with z|z|⟨ys,z⟩
   ·rw[e3] at z;cases z
   ·rw[eo] at z;cases z
   ·subst z;exact absurd (u.fh _ _ q) (λw=>by rw[u.hh _ _ eo] at w;cases w;exact e2.Cj eo)
 dis:=h.dis
 dd:=let⟨P,d⟩:=h.dd;⟨P,d.up u⟩
theorem get_set{α:Type}{l:List α}{i j:Nat}{x y:α}(h:(l.set i x)[j]?=some y):(i=j/\x=y)\/(i≠j/\l[j]?=some y):=by
 rw[List.getElem?_set] at h;by_cases e:i=j
 ·subst e;rw[Zan rfl] at h;split at h
  ·exact .inl ⟨rfl,Zaa h⟩
  ·cases h
 ·rw[Zap e] at h;exact .inr ⟨e,h⟩
theorem bT{α:Type}{l:List α}{j:Nat}{y:α}(h:l[j]?=some y):j<l.length:=(Zar.mp h).1
theorem RE.set(h:RE K C F H σ ρ)(i:Nat)(r:Rep K F v p):RE K C F H (σ.set i (some v)) (ρ.set i (some (.sh p))) where
 rb:=h.rb
 len:=by simp[h.len]
 sh:=λj q e=>by
  rcases get_set e with⟨e1,e2⟩|⟨e1,e2⟩
  ·subst e1;cases e2;have:=bT e;exact⟨v,by rw[ZaE (by rw[h.len];simpa using this)],r⟩
  ·obtain⟨w,e3,e4⟩:=h.sh j q e2;exact⟨w,by rw[Zad e1];exact e3,e4⟩
 ow:=λj q e=>by
  rcases get_set e with⟨e1,e2⟩|⟨e1,e2⟩
  ·cases e2
  ·obtain⟨w,e3,e4⟩:=h.ow j q e2;exact⟨w,by rw[Zad e1];exact e3,e4⟩
 dis:=λj k q q' a e e' f f'=>by
  rcases get_set e with⟨e1,e2⟩|⟨e1,e2⟩
  ·cases e2
  ·rcases get_set e' with⟨e1',e2'⟩|⟨e1',e2'⟩
   ·cases e2'
   ·rw[Zad e1] at f;rw[Zad e1'] at f';exact h.dis j k q q' a e2 e2' f f'
 dd:=let⟨P,d⟩:=h.dd;⟨P,d.own,d.dis,λj k q b z e f=>by
   rcases get_set e with⟨e1,e2⟩|⟨e1,e2⟩
   ·cases e2
   ·rw[Zad e1] at f;exact d.ow j k q b z e2 f,λj q e=>by
   rcases get_set e with⟨e1,e2⟩|⟨e1,e2⟩
   ·cases e2
   ·obtain⟨w,e3,e4⟩:=d.dp j q e2;exact⟨w,by rw[Zad e1];exact e3,e4⟩⟩
theorem RE.Uy(h:RE K C F H σ ρ)(i:Nat)(r:Own K F H a p)(hn:F a=none)(nw:C.nw)(h0:C.H0 a=none)(ha:∀ (j:Nat) q,ρ[j]?=some (some (.ow q))->j≠i->σ[j]?≠some (some (.ref a)))(hd:∃ P,RD K C F H σ ρ P/\∀ j,¬P j a) :
  RE K C F H (σ.set i (some (.ref a))) (ρ.set i (some (.ow p))) where
 rb:=h.rb
 len:=by simp[h.len]
 sh:=λj q e=>by
  rcases get_set e with⟨e1,e2⟩|⟨e1,e2⟩
  ·cases e2
  ·obtain⟨w,e3,e4⟩:=h.sh j q e2;exact⟨w,by rw[Zad e1];exact e3,e4⟩
 ow:=λj q e=>by
  rcases get_set e with⟨e1,e2⟩|⟨e1,e2⟩
  ·subst e1;cases e2;have:=bT e;exact⟨a,by rw[ZaE (by rw[h.len];simpa using this)],r,hn,.inr ⟨nw,h0⟩⟩
  ·obtain⟨w,e3,e4⟩:=h.ow j q e2;exact⟨w,by rw[Zad e1];exact e3,e4⟩
 dis:=λj k q q' b e e' f f'=>by
  rcases get_set e with⟨e1,e2⟩|⟨e1,e2⟩
  ·rcases get_set e' with⟨e1',e2'⟩|⟨e1',e2'⟩
   ·exact e1.symm.trans e1'
   ·subst e1;have:=bT e;rw[ZaE (by rw[h.len];simpa using this)] at f
    cases f;rw[Zad e1'] at f';exact absurd f' (ha k q' e2' (Za0 e1'))
  ·rcases get_set e' with⟨e1',e2'⟩|⟨e1',e2'⟩
   ·subst e1';have:=bT e';rw[ZaE (by rw[h.len];simpa using this)] at f'
    cases f';rw[Zad e1] at f;exact absurd f (ha j q e2 (Za0 e1))
   ·rw[Zad e1] at f;rw[Zad e1'] at f';exact h.dis j k q q' b e2 e2' f f'
 dd:=let⟨P,d,na⟩:=hd;⟨P,d.own,d.dis,λj k q b z e f=>by
   rcases get_set e with⟨e1,e2⟩|⟨e1,e2⟩
   ·subst e1;have:=bT e;rw[ZaE (by rw[h.len];simpa using this)] at f
    cases f;exact na j z
   ·rw[Zad e1] at f;exact d.ow j k q b z e2 f,λj q e=>by
   rcases get_set e with⟨e1,e2⟩|⟨e1,e2⟩
   ·cases e2
   ·obtain⟨w,e3,e4⟩:=d.dp j q e2;exact⟨w,by rw[Zad e1];exact e3,e4⟩⟩
theorem RE.RC(h:RE K C F H σ ρ)(n:H a=none)(u:Up F H F' H'):∃ P,RD K C F' H' σ ρ P/\∀ j,¬P j a:=by
 obtain⟨P,d⟩:=h.dd;exact⟨P,d.up u,λj z=>by obtain⟨_,⟨o,e,_⟩,_⟩:=d.own j a z;rw[n] at e;cases e⟩
theorem RE.apart(h:RE K C F H σ ρ)(n:H a=none)(j:Nat)(q:PV)(e:ρ[j]?=some (some (.ow q))):σ[j]?≠some (some (.ref a)):=λf=>by
 obtain⟨b,e1,e2,_⟩:=h.ow j q e;rw[e1] at f;cases f;obtain⟨o,eo⟩:=e2.ne;rw[eo] at n;cases n
theorem RE.write(h:RE K C F H σ ρ){i:Nat}{o:HO}{p':PV}(e:ρ[i]?=some (some (.ow p)))(ea:σ[i]?=some (some (.ref a)))(r:Own K F (upd H a o) a p') :
  RE K C F (upd H a o) σ (ρ.set i (some (.ow p'))):=by
 obtain⟨a',e1,e2,e3,e4⟩:=h.ow i p e;rw[ea] at e1;cases e1;have ne:∀ b u,F b=some u->b≠a:=λb u q z=>by rw[z,e3] at q;cases q
 refine⟨⟨λb u q=>by rw[aU (ne b u q)];exact h.rb.sub b u q,λb u q n=>?_,h.rb.new,λb hb=>⟨?_,(h.rb.ios b hb).2⟩⟩,by simp[h.len],λj q f=>?_,λj q f=>?_,λj k q q' b f f' g g'=>?_,?_⟩
 ·have:b≠a:=λz=>by
   subst z;rcases e4 with z|z
   ·exact n z
   ·rw[z.2] at q;cases q
  rw[aU this];exact h.rb.keep b u q n
 ·by_cases hba:b=a
  ·subst hba;rw[aX];simp
  ·rw[aU hba];exact(h.rb.ios b hb).1
 ·rcases get_set f with⟨e1,f2⟩|⟨e1,f2⟩
  ·cases f2
  ·exact h.sh j q f2
 ·rcases get_set f with⟨e1,f2⟩|⟨e1,f2⟩
  ·subst e1;cases f2;exact⟨a,ea,r,e3,e4⟩
  ·obtain⟨b,g1,g2,g3,g4⟩:=h.ow j q f2;refine⟨b,g1,g2.up (bf.refl _) λu qq=>?_,g3,g4⟩;have:b≠a:=λz=>by subst z;exact e1 (h.dis i j p q b e f2 ea g1)
   rw[aU this];exact qq
 ·have key:∀ (j:Nat) q,(ρ.set i (some (Sl.ow p')))[j]?=some (some (.ow q))->∃ q0,ρ[j]?=some (some (.ow q0)):=λj q f=>by
   rcases get_set f with⟨e1,f2⟩|⟨e1,f2⟩
   ·subst e1;exact⟨p,e⟩
   ·exact⟨q,f2⟩
  obtain⟨q0,k0⟩:=key j q f;obtain⟨q1,k1⟩:=key k q' f';exact h.dis j k q0 q1 b k0 k1 g g'
 ·obtain⟨P,d⟩:=h.dd;have na:∀ j b,P j b->b≠a:=λj b z e'=>by subst e';exact d.ow j i p b z e ea
  refine⟨P,λj b z=>?_,d.dis,λj k q b z f g=>?_,λj q f=>?_⟩
  ·rw[aU (na j b z)];exact d.own j b z
  ·rcases get_set f with⟨f1,f2⟩|⟨f1,f2⟩
   ·subst f1;exact d.ow j i p b z e g
   ·exact d.ow j k q b z f2 g
  ·rcases get_set f with⟨f1,f2⟩|⟨f1,f2⟩
   ·cases f2
   ·obtain⟨w,e3,e5⟩:=d.dp j q f2;exact⟨w,e3,e5.up (bf.refl _) (λb o z q=>by rw[aU (na j b z)];exact q) λb ys q=>by rw[aU λz=>by subst z;exact e2.Cj q];exact q⟩
theorem RE.frz(h:RE K C F H σ ρ){i:Nat}(e:ρ[i]?=some (some (.ow p)))(hio:∀ a,σ[i]?=some (some (.ref a))->¬C.io a):∃ F',bf F F'/\RE K C F' H σ (ρ.set i (some (.sh p))):=by
 obtain⟨a,e1,e2,e3,e4⟩:=h.ow i p e;obtain⟨o,eo,r⟩:=e2.frozen e3;have h0:C.H0 a=none:=(e4.resolve_left (hio a e1)).2;have sf:bf F (upd F a o):=d9 e3;have li:=bT e;refine⟨upd F a o,sf,⟨⟨λb u q=>?_,h.rb.keep,λb u q=>?_,h.rb.ios⟩,by simp[h.len],λj q f=>?_,λj q f=>?_,λj k q q' b f f' g g'=>?_,?_⟩⟩
 ·by_cases hb:b=a
  ·subst hb;rw[aX] at q;cases q;exact eo
  ·rw[aU hb] at q;exact h.rb.sub b u q
 ·by_cases hb:b=a
  ·subst hb;exact .inr (.inl h0)
  ·rw[aU hb] at q;exact h.rb.new b u q
 ·rcases get_set f with⟨f1,f2⟩|⟨f1,f2⟩
  ·subst f1;cases f2;exact⟨_,e1,r⟩
  ·obtain⟨v,g1,g2⟩:=h.sh j q f2;exact⟨v,g1,g2.up sf⟩
 ·rcases get_set f with⟨f1,f2⟩|⟨f1,f2⟩
  ·cases f2
  ·obtain⟨b,g1,g2,g3,g4⟩:=h.ow j q f2;refine⟨b,g1,g2.up sf λ_ z=>z,?_,g4⟩;have:b≠a:=λz=>by subst z;exact f1 (h.dis i j p q b e f2 e1 g1)
   rw[aU this];exact g3
 ·rcases get_set f with⟨f1,f2⟩|⟨f1,f2⟩
  ·cases f2
  ·rcases get_set f' with⟨f1',f2'⟩|⟨f1',f2'⟩
   ·cases f2'
   ·exact h.dis j k q q' b f2 f2' g g'
 ·obtain⟨P,d⟩:=h.dd;have na:∀ j b,P j b->b≠a:=λj b z e'=>by subst e';exact d.ow j i p b z e e1
  refine⟨P,λj b z=>?_,d.dis,λj k q b z f g=>?_,λj q f=>?_⟩
  ·rw[aU (na j b z)];exact d.own j b z
  ·rcases get_set f with⟨f1,f2⟩|⟨f1,f2⟩
   ·cases f2
   ·exact d.ow j k q b z f2 g
  ·rcases get_set f with⟨f1,f2⟩|⟨f1,f2⟩
   ·cases f2
   ·obtain⟨w,e3,e5⟩:=d.dp j q f2;exact⟨w,e3,e5.up sf (λ_ _ _ q=>q) λ_ _ q=>q⟩
end
structure Cg extends Cf where
 XR:Hp->Value->Option Addr->PV->Prop
def PX(C:Cg)(F:Hp)(z:PV):Prop:=∀ e d F' H',bf F F'->RB C.toCf F' H'->C.XR F' e d z->C.E e d H'
def Pr{α:Type}(C:Cg)(F:Hp)(ok:α->Prop):Res α->Prop
 |.ok a=>ok a
 |.ex z=>PX C F z
noncomputable abbrev Rel(α:Type):=Hp->Hp->V->α->Prop
def aF(K:Frag):Rel PV:=λF _ v p=>Rep K F v p
def aH(K:Frag):Rel PV:=λ_ H v p=>Rep K H v p
def aV(K:Frag):Rel (List PV):=λF H v l=>∃ a xs,v=.ref a/\SqL K H a xs/\bW K F xs l
def UpM{α:Type}(A:Rel α):Prop:=∀ F H F' H' v a,Up F H F' H'->A F H v a->A F' H' v a
theorem aF.up{K:Frag}:UpM (aF K):=λ_ _ _ _ _ _ u h=>Rep.up h u.ff
theorem aH.up{K:Frag}:UpM (aH K):=λ_ _ _ _ _ _ u h=>Rep.up h u.hh
theorem aV.up{K:Frag}:UpM (aV K):=λ_ _ _ _ _ _ u h=>let⟨a,xs,e,s,r⟩:=h;⟨a,xs,e,u.hh.seq s,r.up u.ff⟩
noncomputable abbrev Fn(α:Type):=Rho->Option (Res α)
def MJ{α:Type}(K:Frag)(C:Cg)(A:Rel α)(te:TE)(f:Fn α):Prop:=
 ∀ F H σ ρ Q r,RE K C.toCf F H σ ρ->f ρ=some r->Pr C F (λa=>∀ v F' H',Up F H F' H'->A F' H' v a->Q v H') r->te σ H Q
def MT(K:Frag)(C:Cg)(tt:TT)(f:Fn Bool):Prop:=
 ∀ F H σ ρ Q r,RE K C.toCf F H σ ρ->f ρ=some r->Pr C F (λb=>∀ F' H',Up F H F' H'->Q b H') r->tt σ H Q
def MA(K:Frag)(C:Cg)(ta:TA)(f:Fn (List PV)):Prop:=
 ∀ F H σ ρ Q r,RE K C.toCf F H σ ρ->f ρ=some r->Pr C F (λl=>∀ xs F' H',Up F H F' H'->bW K F' xs l->Q xs H') r->ta σ H Q
def MAL(K:Frag)(C:Cg)(ta:TA)(f:Fn (List PV)):Prop:=
 ∀ F H σ ρ Q r,RE K C.toCf F H σ ρ->f ρ=some r->Pr C F (λl=>∀ xs F' H',Up F H F' H'->bW K H' xs l->Q xs H') r->ta σ H Q
def MO(K:Frag)(C:Cg)(te:TE)(f:Fn PV):Prop:=
 ∀ F H σ ρ Q r,RE K C.toCf F H σ ρ->f ρ=some r->Pr C F (λp=>∀ a F' H',Up F H F' H'->H a=none->F' a=none->Own K F' H' a p->Q (.ref a) H') r->te σ H Q
theorem cL{α β:Type}{x:Option (Res α)}{k:α->Option (Res β)}{r:Res β}(h:bnd x k=some r):(∃ z,x=some (.ex z)/\r=.ex z)\/∃ a,x=some (.ok a)/\k a=some r:=by
 match x,h with
 |some (.ok a),h=>exact .inr ⟨a,rfl,h⟩
 |some (.ex z),h=>exact .inl ⟨z,rfl,(Zaa h).symm⟩
theorem PX.up{C:Cg}{F F1:Hp}{z:PV}(h:PX C F z)(s:bf F F1):PX C F1 z:=λe d F' H' a b c=>h e d F' H' (s.trans a) b c
theorem Pr.mono{α:Type}{C:Cg}{F F1:Hp}{ok ok':α->Prop}{r:Res α}(h:Pr C F ok r)(s:bf F F1)(k:∀ a,ok a->ok' a):Pr C F1 ok' r:=by
 cases r with
 |ok a=>exact k a h
 |ex z=>exact PX.up h s
section
variable{K:Frag}{C:Cg}{α β γ:Type}{A:Rel α}{B:Rel β}{D:Rel γ}{ta tb:TE}{f:Fn α}{g:Fn β}{F H:Hp}{σ:St}{ρ:Rho}{Q:VK}
theorem MJ.run{ok:β->Prop}{k:α->Option (Res β)}{r:Res β}(h:MJ K C A ta f)(R:RE K C.toCf F H σ ρ)(hb:bnd (f ρ) k=some r)(P:Pr C F ok r)
  (go:∀ p v F1 H1,k p=some r->Up F H F1 H1->A F1 H1 v p->Q v H1):ta σ H Q:=by
 rcases cL hb with⟨z,e,rfl⟩|⟨p,e,hk⟩
 ·exact h F H σ ρ Q _ R e P
 ·exact h F H σ ρ Q _ R e λv F1 H1 u a=>go p v F1 H1 hk u a
theorem MT.run{tt:TT}{f:Fn Bool}{Q:Bool->Hp->Prop}{ok:β->Prop}{k:Bool->Option (Res β)}{r:Res β}(h:MT K C tt f)(R:RE K C.toCf F H σ ρ)(hb:bnd (f ρ) k=some r)(P:Pr C F ok r)
  (go:∀ b F1 H1,k b=some r->Up F H F1 H1->Q b H1):tt σ H Q:=by
 rcases cL hb with⟨z,e,rfl⟩|⟨p,e,hk⟩
 ·exact h F H σ ρ Q _ R e P
 ·exact h F H σ ρ Q _ R e λF1 H1 u=>go p F1 H1 hk u
theorem MA.run{t:TA}{f:Fn (List PV)}{Q:List V->Hp->Prop}{ok:β->Prop}{k:List PV->Option (Res β)}{r:Res β}(h:MA K C t f)(R:RE K C.toCf F H σ ρ)(hb:bnd (f ρ) k=some r)(P:Pr C F ok r)
  (go:∀ l xs F1 H1,k l=some r->Up F H F1 H1->bW K F1 xs l->Q xs H1):t σ H Q:=by
 rcases cL hb with⟨z,e,rfl⟩|⟨p,e,hk⟩
 ·exact h F H σ ρ Q _ R e P
 ·exact h F H σ ρ Q _ R e λxs F1 H1 u a=>go p xs F1 H1 hk u a
theorem MAL.run{t:TA}{f:Fn (List PV)}{Q:List V->Hp->Prop}{ok:β->Prop}{k:List PV->Option (Res β)}{r:Res β}(h:MAL K C t f)(R:RE K C.toCf F H σ ρ)(hb:bnd (f ρ) k=some r)(P:Pr C F ok r)
  (go:∀ l xs F1 H1,k l=some r->Up F H F1 H1->bW K H1 xs l->Q xs H1):t σ H Q:=by
 rcases cL hb with⟨z,e,rfl⟩|⟨p,e,hk⟩
 ·exact h F H σ ρ Q _ R e P
 ·exact h F H σ ρ Q _ R e λxs F1 H1 u a=>go p xs F1 H1 hk u a
theorem Pr.later{D:Rel γ}{r:Res γ}{F1 H1:Hp}(P:Pr C F (λa=>∀ v F' H',Up F H F' H'->D F' H' v a->Q v H') r)(u:Up F H F1 H1):Pr C F1 (λa=>∀ v F' H',Up F1 H1 F' H'->D F' H' v a->Q v H') r:=
 P.mono u.ff λ_ h v F' H' u' d=>h v F' H' (u.trans u') d
theorem Pr.KY{Q:Bool->Hp->Prop}{r:Res Bool}{F1 H1:Hp}(P:Pr C F (λb=>∀ F' H',Up F H F' H'->Q b H') r)(u:Up F H F1 H1):Pr C F1 (λb=>∀ F' H',Up F1 H1 F' H'->Q b H') r:=
 P.mono u.ff λ_ h F' H' u'=>h F' H' (u.trans u')
theorem Pr.uE{r:Res PV}{F1 H1:Hp}(P:Pr C F (λp=>∀ a F' H',Up F H F' H'->H a=none->F' a=none->Own K F' H' a p->Q (.ref a) H') r)(u:Up F H F1 H1) :
  Pr C F1 (λp=>∀ a F' H',Up F1 H1 F' H'->H1 a=none->F' a=none->Own K F' H' a p->Q (.ref a) H') r:=
 P.mono u.ff λ_ h a F' H' u' n1 n2 d=>h a F' H' (u.trans u') (u.hh.free n1) n2 d
theorem Pr.RG{Q:List V->Hp->Prop}{r:Res (List PV)}{F1 H1:Hp}(P:Pr C F (λl=>∀ xs F' H',Up F H F' H'->bW K F' xs l->Q xs H') r)(u:Up F H F1 H1):Pr C F1 (λl=>∀ xs F' H',Up F1 H1 F' H'->bW K F' xs l->Q xs H') r:=
 P.mono u.ff λ_ h xs F' H' u' d=>h xs F' H' (u.trans u') d
theorem Pr.RJ{Q:List V->Hp->Prop}{r:Res (List PV)}{F1 H1:Hp}(P:Pr C F (λl=>∀ xs F' H',Up F H F' H'->bW K H' xs l->Q xs H') r)(u:Up F H F1 H1):Pr C F1 (λl=>∀ xs F' H',Up F1 H1 F' H'->bW K H' xs l->Q xs H') r:=
 P.mono u.ff λ_ h xs F' H' u' d=>h xs F' H' (u.trans u') d
def mV(i:Nat):Fn PV:=λρ=>match ρ[i]? with
 |some (some (.sh p))=>some (.ok p)
 |_=>none
theorem aj(i:Nat):MJ K C (aF K) (o9 i) (mV i):=by
 intro F H σ ρ Q r R e P;unfold mV at e;split at e
 ·rename_i p hp;cases e;obtain⟨v,e1,e2⟩:=R.sh i p hp;exact⟨v,e1,P v F H (Up.refl R.rb.sub) e2⟩
 ·cases e
def mVL(i:Nat):Fn PV:=λρ=>match ρ[i]? with
 |some (some (.sh p))=>some (.ok p)
 |some (some (.ow p))=>some (.ok p)
 |_=>none
theorem bJ(i:Nat):MJ K C (aH K) (o9 i) (mVL i):=by
 intro F H σ ρ Q r R e P;unfold mVL at e;split at e
 ·rename_i p hp;cases e;obtain⟨v,e1,e2⟩:=R.sh i p hp;exact⟨v,e1,P v F H (Up.refl R.rb.sub) (e2.up R.rb.sub)⟩
 ·rename_i p hp;cases e;obtain⟨a,e1,e2,e3,_⟩:=R.ow i p hp;exact⟨_,e1,P _ F H (Up.refl R.rb.sub) (e2.lent R.rb.sub)⟩
 ·cases e
def u9:PV->Option (Res (List PV))
 |.lst l=>some (.ok l)
 |_=>none
theorem Hl{f:Fn PV}(h:MJ K C (aF K) ta f):MJ K C (aV K) ta (λρ=>bnd (f ρ) u9):=by
 intro F H σ ρ Q r R e P;refine h.run R e P λp v F1 H1 hk u a=>?_
 match p,hk with
 |.lst l,hk=>
  cases hk;obtain⟨b,xs,rfl,s,rr⟩:=Rep.cN a;exact P _ F1 H1 u ⟨b,xs,rfl,u.fh.seq s,rr⟩
theorem gb(i:Nat):MJ K C (aV K) (o9 i) (λρ=>bnd (mVL i ρ) u9):=by
 intro F H σ ρ Q r R e P;rcases cL e with⟨z,e1,rfl⟩|⟨p,e1,hk⟩
 ·unfold mVL at e1;split at e1<;>cases e1
 ·unfold mVL at e1
  match p,hk with
  |.lst l,hk=>
   cases hk;split at e1
   ·rename_i q hq;cases e1;obtain⟨v,e2,e3⟩:=R.sh i _ hq;obtain⟨b,xs,rfl,s,rr⟩:=Rep.cN e3;exact⟨_,e2,P _ F H (Up.refl R.rb.sub) ⟨b,xs,rfl,R.rb.sub.seq s,rr⟩⟩
   ·rename_i q hq;cases e1;obtain⟨a,e2,⟨xs,e3,rr⟩,_⟩:=R.ow i _ hq;exact⟨_,e2,P _ F H (Up.refl R.rb.sub) ⟨a,xs,rfl,SqL.of e3,rr⟩⟩
   ·cases e1
theorem bz{f:Fn PV}(h:MJ K C (aF K) ta f):MJ K C (aH K) ta f:=by
 intro F H σ ρ Q r R e P;refine h F H σ ρ Q r R e ?_;exact P.mono (bf.refl _) λ_ k v F' H' u d=>k v F' H' u (Rep.up d u.fh)
def mC(p:PV):Fn PV:=λ_=>some (.ok p)
theorem KZ{v:V}{p:PV}(h:∀ F,Rep K F v p):MJ K C (aF K) (tC v) (mC p):=by
 intro F H σ ρ Q r R e P;cases e;exact P v F H (Up.refl R.rb.sub) (h F)
theorem aB{i:Int}:MJ K C (aF K) (tC (.int i)) (mC (.int i)):=KZ λ_=>.int
theorem qU{i:Bool}:MJ K C (aF K) (tC (.bl i)) (mC (.bl i)):=KZ λ_=>.bl
theorem eE{i:Str}:MJ K C (aF K) (tC (.str i)) (mC (.str i)):=KZ λ_=>.str
theorem uF:MJ K C (aF K) (tC .non) (mC .non):=KZ λ_=>.non
theorem wI{n:String}:MJ K C (aF K) (tC (.ty n)) (mC (.ty n)):=KZ λ_=>.ty
theorem cU{f:Fn PV}(h:MO K C ta f):MJ K C (aF K) ta f:=by
 intro F H σ ρ Q r R e P;refine h F H σ ρ Q r R e (P.mono (bf.refl _) λp k a F' H' u n1 n2 o=>?_);obtain⟨ob,eo,rr⟩:=o.frozen n2;refine k _ (upd F' a ob) H' ⟨u.ff.trans (d9 n2),u.hh,λb x q=>?_,λb x q=>?_⟩ rr
 ·by_cases hb:b=a
  ·subst hb;exact .inr (.inl n1)
  ·rw[aU hb] at q;exact u.fr b x q
 ·by_cases hb:b=a
  ·subst hb;rw[aX] at q;cases q;exact eo
  ·rw[aU hb] at q;exact u.fh b x q
theorem jB{f:Fn PV}(h:MO K C ta f):MJ K C (aV K) ta (λρ=>bnd (f ρ) u9):=Hl (cU h)
def m2{α β γ:Type}(op:α->β->Option (Res γ))(f:Fn α)(g:Fn β):Fn γ:=λρ=>bnd (f ρ) λa=>bnd (g ρ) λb=>op a b
def R2M(C:Cg)(A:Rel α)(B:Rel β)(D:Rel γ)(r:R2)(op:α->β->Option (Res γ)):Prop:=
 ∀ F H x y a b res Q,bf F H->A F H x a->B F H y b->op a b=some res->Pr C F (λc=>∀ v F' H',Up F H F' H'->D F' H' v c->Q v H') res->r x y H Q
theorem au{op:α->β->Option (Res γ)}{r2:R2}(up:UpM A)(rule:R2M C A B D r2 op)(ha:MJ K C A ta f)(hb:MJ K C B tb g):MJ K C D (tOp r2 ta tb) (m2 op f g):=by
 intro F H σ ρ Q r R e P;refine ha.run R e P λp v F1 H1 hk u a=>?_;refine hb.run (R.up u) hk (P.later u) λq w F2 H2 hk2 u2 b=>?_;exact rule F2 H2 v w p q r Q u2.fh (up _ _ _ _ _ _ u2 a) b hk2 (P.later (u.trans u2))
def m1{α γ:Type}(op:α->Option (Res γ))(f:Fn α):Fn γ:=λρ=>bnd (f ρ) op
def zK(o1 o2:PV->PV->Option (Res PV))(f g h:Fn PV):Fn PV:=λρ=>bnd (f ρ) λa=>bnd (g ρ) λb=>bnd (o1 a b) λz=>match z with
 |.bl true=>bnd (h ρ) λc=>o2 b c
 |.bl false=>some (.ok (.bl false))
 |_=>none
theorem K1{o1 o2:PV->PV->Option (Res PV)}{r r':R2}{tc:TE}{f g h:Fn PV}(r1:R2M C (aF K) (aF K) (aF K) r o1)(r2:R2M C (aF K) (aF K) (aF K) r' o2)(ha:MJ K C (aF K) ta f)(hb:MJ K C (aF K) tb g)(hc:MJ K C (aF K) tc h) :
  MJ K C (aF K) (Kp r r' ta tb tc) (zK o1 o2 f g h):=by
 intro F H σ ρ Q r R e P;refine ha.run R e P λp v F1 H1 hk u a=>?_;refine hb.run (R.up u) hk (P.later u) λq w F2 H2 hk2 u2 b=>?_;rcases cL hk2 with⟨z,e1,rfl⟩|⟨z,e1,hk3⟩
 ·exact r1 F2 H2 v w p q _ _ u2.fh (aF.up _ _ _ _ _ _ u2 a) b e1 (PX.up P (u.trans u2).ff)
 ·refine r1 F2 H2 v w p q _ _ u2.fh (aF.up _ _ _ _ _ _ u2 a) b e1 λvz F3 H3 u3 rz=>?_
  match z,hk3 with
  |.bl true,hk3=>
   cases Rep.fY rz;refine⟨true,rfl,?_⟩;rw[Zan rfl];have u13:=u.trans (u2.trans u3);refine hc.run (R.up u13) hk3 (P.later u13) λc wc F4 H4 hk4 u4 rc=>?_;exact r2 F4 H4 w wc q c _ Q u4.fh (Rep.up b (u3.trans u4).ff) rc hk4 (P.later (u13.trans u4))
  |.bl false,hk3=>
   cases Rep.fY rz;cases hk3;refine⟨false,rfl,?_⟩;rw[Zap (by decide)]
   exact P _ F3 H3 (u.trans (u2.trans u3)) .bl
def tO(f g:Fn PV):Fn PV:=λρ=>bnd (f ρ) λa=>match a with
 |.bl true=>g ρ
 |.bl false=>some (.ok (.bl false))
 |_=>none
def Oi(f g:Fn PV):Fn PV:=λρ=>bnd (f ρ) λa=>match a with
 |.bl true=>some (.ok (.bl true))
 |.bl false=>g ρ
 |_=>none
def K3:PV->Option (Res PV)
 |.bl b=>some (.ok (.bl (!b)))
 |_=>none
theorem uG{f g:Fn PV}(ha:MJ K C (aF K) ta f)(hb:MJ K C (aF K) tb g):MJ K C (aF K) (Qp ta tb) (tO f g):=by
 intro F H σ ρ Q r R e P;refine ha.run R e P λp v F1 H1 hk u a=>?_
 match p,hk with
 |.bl true,hk=>
  cases Rep.fY a;refine⟨true,rfl,?_⟩;rw[Zan rfl];exact hb F1 H1 σ ρ Q r (R.up u) hk (P.later u)
 |.bl false,hk=>
  cases Rep.fY a;cases hk;refine⟨false,rfl,?_⟩;rw[Zap (by decide)]
  exact P _ F1 H1 u .bl
theorem TQ{f g:Fn PV}(ha:MJ K C (aF K) ta f)(hb:MJ K C (aF K) tb g):MJ K C (aF K) (SX ta tb) (Oi f g):=by
 intro F H σ ρ Q r R e P;refine ha.run R e P λp v F1 H1 hk u a=>?_
 match p,hk with
 |.bl true,hk=>
  cases Rep.fY a;cases hk;refine⟨true,rfl,?_⟩;rw[Zan rfl];exact P _ F1 H1 u .bl
 |.bl false,hk=>
  cases Rep.fY a;refine⟨false,rfl,?_⟩;rw[Zap (by decide)]
  exact hb F1 H1 σ ρ Q r (R.up u) hk (P.later u)
theorem RK{f:Fn PV}(ha:MJ K C (aF K) ta f):MJ K C (aF K) (Qq ta) (m1 K3 f):=by
 intro F H σ ρ Q r R e P;refine ha.run R e P λp v F1 H1 hk u a=>?_
 match p,hk with
 |.bl b,hk=>
  cases Rep.fY a;cases hk;exact⟨b,rfl,P _ F1 H1 u .bl⟩
def cZ:PV->Option (Res Bool)
 |.bl b=>some (.ok b)
 |_=>none
theorem bF{f:Fn PV}(ha:MJ K C (aF K) ta f):MT K C (Qw ta) (m1 cZ f):=by
 intro F H σ ρ Q r R e P;refine ha.run R e P λp v F1 H1 hk u a=>?_
 match p,hk with
 |.bl b,hk=>
  cases Rep.fY a;cases hk;exact⟨b,rfl,P F1 H1 u⟩
theorem lU{f:Fn PV}(ha:MJ K C (aF K) ta f):MT K C (tB ta) (m1 cZ f):=bF ha
def zL(f g:Fn Bool):Fn Bool:=λρ=>bnd (f ρ) λa=>if a=true then g ρ else some (.ok false)
def mOr(f g:Fn Bool):Fn Bool:=λρ=>bnd (f ρ) λa=>if a=true then some (.ok true) else g ρ
def wJ(f:Fn Bool):Fn Bool:=λρ=>bnd (f ρ) λa=>some (.ok (!a))
variable{c d:TT}{fc gc:Fn Bool}
theorem uH(ha:MT K C c fc)(hb:MT K C d gc):MT K C (SN c d) (zL fc gc):=by
 intro F H σ ρ Q r R e P;refine ha.run R e P λb F1 H1 hk u=>?_;cases b with
 |true=>rw[Zan rfl] at hk ⊢;exact hb F1 H1 σ ρ Q r (R.up u) hk (P.KY u)
 |false=>rw[Zap (by decide)] at hk ⊢;cases hk;exact P F1 H1 u
theorem Ck(ha:MT K C c fc)(hb:MT K C d gc):MT K C (tOr c d) (mOr fc gc):=by
 intro F H σ ρ Q r R e P;refine ha.run R e P λb F1 H1 hk u=>?_;cases b with
 |true=>rw[Zan rfl] at hk ⊢;cases hk;exact P F1 H1 u
 |false=>rw[Zap (by decide)] at hk ⊢;exact hb F1 H1 σ ρ Q r (R.up u) hk (P.KY u)
theorem pC(ha:MT K C c fc):MT K C (SQ c) (wJ fc):=by
 intro F H σ ρ Q r R e P;refine ha.run R e P λb F1 H1 hk u=>?_;cases hk;exact P F1 H1 u
def mIf{γ:Type}(f:Fn Bool)(g h:Fn γ):Fn γ:=λρ=>bnd (f ρ) λa=>if a=true then g ρ else h ρ
theorem QG{f g:Fn γ}(hc:MT K C c fc)(ha:MJ K C D ta f)(hb:MJ K C D tb g):MJ K C D (tIf c ta tb) (mIf fc f g):=by
 intro F H σ ρ Q r R e P;refine hc.run R e P λb F1 H1 hk u=>?_;cases b with
 |true=>rw[Zan rfl] at hk ⊢;exact ha F1 H1 σ ρ Q r (R.up u) hk (P.later u)
 |false=>rw[Zap (by decide)] at hk ⊢;exact hb F1 H1 σ ρ Q r (R.up u) hk (P.later u)
def bA:Fn (List PV):=λ_=>some (.ok [])
def aJ(f:Fn PV)(g:Fn (List PV)):Fn (List PV):=λρ=>bnd (f ρ) λa=>bnd (g ρ) λl=>some (.ok (a::l))
theorem aO:MA K C By bA:=λF H σ ρ Q r R e P=>by
 cases e;exact P [] F H (Up.refl R.rb.sub) .nil
theorem az{f:Fn PV}{g:Fn (List PV)}{t:TA}(ha:MJ K C (aF K) ta f)(hb:MA K C t g):MA K C (qR ta t) (aJ f g):=by
 intro F H σ ρ Q r R e P;refine ha.run R e P λp v F1 H1 hk u a=>?_;refine hb.run (R.up u) hk (P.RG u) λl xs F2 H2 hk2 u2 b=>?_;cases hk2;exact P _ F2 H2 (u.trans u2) (b.cons (Rep.up a u2.ff))
theorem Oj:MAL K C By bA:=λF H σ ρ Q r R e P=>by
 cases e;exact P [] F H (Up.refl R.rb.sub) .nil
theorem wK{f:Fn PV}{g:Fn (List PV)}{t:TA}(ha:MJ K C (aH K) ta f)(hb:MAL K C t g):MAL K C (qR ta t) (aJ f g):=by
 intro F H σ ρ Q r R e P;refine ha.run R e P λp v F1 H1 hk u a=>?_;refine hb.run (R.up u) hk (P.RJ u) λl xs F2 H2 hk2 u2 b=>?_;cases hk2;exact P _ F2 H2 (u.trans u2) (b.cons (Rep.up a u2.hh))
theorem Up.Jp{F H:Hp}{a:Addr}{o:HO}(s:bf F H)(h:H a=none):Up F H F (upd H a o):=⟨bf.refl _,d9 h,λ_ _ q=>.inl q,s.trans (d9 h)⟩
theorem Up.new{F H:Hp}{a:Addr}{o:HO}(s:bf F H)(h:H a=none):Up F H (upd F a o) (upd H a o):=by
 have hf:F a=none:=s.free h;refine⟨d9 hf,d9 h,λb u q=>?_,λb u q=>?_⟩
 ·by_cases hb:b=a
  ·subst hb;exact .inr (.inl h)
  ·rw[aU hb] at q;exact .inl q
 ·by_cases hb:b=a
  ·subst hb;rw[aX] at q ⊢;exact q
  ·rw[aU hb] at q ⊢;exact s b u q
def lV(f:Fn (List PV)):Fn PV:=λρ=>bnd (f ρ) λl=>if l.length<=sizeLine then some (.ok (.tup l)) else none
def pD(f:Fn (List PV)):Fn PV:=λρ=>bnd (f ρ) λl=>if l.length<=sizeLine then some (.ok (.lst l)) else none
theorem fC{t:TA}{f:Fn (List PV)}(h:MA K C t f):MJ K C (aF K) (Th t) (lV f):=by
 intro F H σ ρ Q r R e P;refine h.run R e P λl xs F1 H1 hk u a=>?_;split at hk
 ·rename_i hl;cases hk;refine⟨by rw[a.1];exact hl,λp hp=>?_⟩
  have un:=Up.new (o:=.tup xs) u.fh hp;exact P _ _ _ (u.trans un) (.tup aX a.1 (a.up un.ff).2)
 ·cases hk
theorem gP{t:TA}{f:Fn (List PV)}(h:MA K C t f):MO K C (Ti t) (pD f):=by
 intro F H σ ρ Q r R e P;refine h.run R e P λl xs F1 H1 hk u a=>?_;split at hk
 ·rename_i hl;cases hk;refine⟨by rw[a.1];exact hl,λp hp=>?_⟩
  exact P _ _ _ (u.trans (Up.Jp u.fh hp)) (u.hh.free hp) (u.fh.free hp) ⟨xs,aX,a⟩
 ·cases hk
def spM(K:Frag)(XR:Hp->Value->Option Addr->PV->Prop)(m:List PV->Option (Res PV)):Sp:=λvs H Q E=>∃ ps F r,bf F H/\bW K F vs ps/\m ps=some r/\match r with
 |.ok p=>∀ v F' H',Up F H F' H'->Rep K F' v p->Q v H'
 |.ex z=>∀ e d F' H',Up F H F' H'->XR F' e d z->E e d H'
def spO(K:Frag)(XR:Hp->Value->Option Addr->PV->Prop)(m:List PV->Option (Res PV)):Sp:=λvs H Q E=>∃ ps F r,bf F H/\bW K F vs ps/\m ps=some r/\match r with
 |.ok p=>∀ a F' H',Up F H F' H'->H a=none->F' a=none->Own K F' H' a p->Q (.ref a) H'
 |.ex z=>∀ e d F' H',Up F H F' H'->XR F' e d z->E e d H'
def bU(m:List PV->Option (Res PV))(f:Fn (List PV)):Fn PV:=λρ=>bnd (f ρ) m
theorem bM{t:TA}{f:Fn (List PV)}{m:List PV->Option (Res PV)}(h:MA K C t f):MJ K C (aF K) (wA (spM K C.XR m) [] C.E t) (bU m f):=by
 intro F H σ ρ Q r R e P;refine h.run R e P λl xs F1 H1 hk u a=>?_;refine⟨l,F1,r,u.fh,by rw[ZaM];exact a,hk,?_⟩
 cases r with
 |ok p=>exact λv F' H' u' rv=>P v F' H' (u.trans u') rv
 |ex z=>exact λe d F' H' u' x=>P e d F' H' (u.trans u').ff (R.rb.up (u.trans u')) x
theorem eN{t:TA}{f:Fn (List PV)}{m:List PV->Option (Res PV)}(h:MA K C t f):MO K C (wA (spO K C.XR m) [] C.E t) (bU m f):=by
 intro F H σ ρ Q r R e P;refine h.run R e P λl xs F1 H1 hk u a=>?_;refine⟨l,F1,r,u.fh,by rw[ZaM];exact a,hk,?_⟩
 cases r with
 |ok p=>exact λv F' H' u' n1 n2 rv=>P v F' H' (u.trans u') (u.hh.free n1) n2 rv
 |ex z=>exact λe d F' H' u' x=>P e d F' H' (u.trans u').ff (R.rb.up (u.trans u')) x
def zM(m:List PV->Option (Res PV))(f:Fn (List PV)):Fn PV:=λρ=>bnd (f ρ) λl=>match m l with
 |some (.ok p)=>if p.flat=true then some (.ok p) else none
 |_=>none
theorem K4{t:TA}{f:Fn (List PV)}{m:List PV->Option (Res PV)}(h:MAL K C t f):MJ K C (aF K) (wA (spM K C.XR m) [] C.E t) (zM m f):=by
 intro F H σ ρ Q r R e P;refine h.run R e P λl xs F1 H1 hk u a=>?_;split at hk
 ·rename_i p hp;split at hk
  ·rename_i hf;cases hk;refine⟨l,H1,.ok p,bf.refl _,by rw[ZaM];exact a,hp,λv F' H' u' rv=>?_⟩
   exact P v F1 H' (u.trans ⟨bf.refl _,u'.hh,λ_ _ q=>.inl q,u.fh.trans u'.hh⟩) (Rep.free rv hf)
  ·cases hk
 ·cases hk
end
inductive Out where
 |nx (ρ:Rho)|rt (p:PV)|ro (p:PV)|rd (p:PV)|bk (ρ:Rho)|ct (ρ:Rho)|ex (z:PV)
noncomputable abbrev Sn:=Rho->Option Out
def PO'(K:Frag)(C:Cg)(F:Hp)(D:Ends):Out->Prop
 |.nx ρ=>∀ F' H' σ,bf F F'->RE K C.toCf F' H' σ ρ->D.nx σ H'
 |.bk ρ=>∀ F' H' σ,bf F F'->RE K C.toCf F' H' σ ρ->D.bk σ H'
 |.ct ρ=>∀ F' H' σ,bf F F'->RE K C.toCf F' H' σ ρ->D.ct σ H'
 |.rt p=>∀ v F' H',bf F F'->RB C.toCf F' H'->Rep K F' v p->D.rt v H'
 |.ro p=>∀ a F' H',bf F F'->RB C.toCf F' H'->Own K F' H' a p->F' a=none->C.H0 a=none->D.rt (.ref a) H'
 |.rd p=>∀ v F' H' S,bf F F'->RB C.toCf F' H'->Dp K F' H' S v p->(∀ b,S b->F' b=none/\(∃ o,H' b=some o/\∀ ys,o≠.tup ys)/\C.H0 b=none)->D.rt v H'
 |.ex z=>PX C F z
def MS(K:Frag)(C:Cg)(t:TS)(f:Sn):Prop:=∀ F H σ ρ D o,RE K C.toCf F H σ ρ->f ρ=some o->PO' K C F D o->t D σ H
def iz{α:Type}(x:Option (Res α))(k:α->Option Out):Option Out:=match x with
 |some (.ok a)=>k a
 |some (.ex z)=>some (.ex z)
 |none=>none
theorem Ol{α:Type}{a:α}{k:α->Option Out}:iz (some (.ok a)) k=k a:=rfl
theorem gf{α:Type}{x:Option (Res α)}{k:α->Option Out}{o:Out}(h:iz x k=some o):(∃ z,x=some (.ex z)/\o=.ex z)\/∃ a,x=some (.ok a)/\k a=some o:=by
 match x,h with
 |some (.ok a),h=>exact .inr ⟨a,rfl,h⟩
 |some (.ex z),h=>exact .inl ⟨z,rfl,(Zaa h).symm⟩
section
variable{K:Frag}{C:Cg}{α:Type}{A:Rel α}{ta te:TE}{F H:Hp}{σ:St}{ρ:Rho}{D:Ends}{t u:TS}{f g:Sn}{o:Out}
theorem PO'.up{F1:Hp}(h:PO' K C F D o)(s:bf F F1):PO' K C F1 D o:=by
 cases o with
 |nx ρ=>exact λF' H' σ a=>h F' H' σ (s.trans a)
 |bk ρ=>exact λF' H' σ a=>h F' H' σ (s.trans a)
 |ct ρ=>exact λF' H' σ a=>h F' H' σ (s.trans a)
 |rt p=>exact λv F' H' a=>h v F' H' (s.trans a)
 |ro p=>exact λv F' H' a=>h v F' H' (s.trans a)
 |rd p=>exact λv F' H' S a=>h v F' H' S (s.trans a)
 |ex z=>exact PX.up h s
theorem MJ.qN{fe:Fn α}{Q:VK}{k:α->Option Out}(h:MJ K C A ta fe)(R:RE K C.toCf F H σ ρ)(hb:iz (fe ρ) k=some o)(P:PO' K C F D o)
  (go:∀ p v F1 H1,k p=some o->Up F H F1 H1->A F1 H1 v p->Q v H1):ta σ H Q:=by
 rcases gf hb with⟨z,e,rfl⟩|⟨p,e,hk⟩
 ·exact h F H σ ρ Q _ R e P
 ·exact h F H σ ρ Q _ R e λv F1 H1 u a=>go p v F1 H1 hk u a
theorem MO.qN{fe:Fn PV}{Q:VK}{k:PV->Option Out}(h:MO K C ta fe)(R:RE K C.toCf F H σ ρ)(hb:iz (fe ρ) k=some o)(P:PO' K C F D o)
  (go:∀ p a F1 H1,k p=some o->Up F H F1 H1->H a=none->F1 a=none->Own K F1 H1 a p->Q (.ref a) H1):ta σ H Q:=by
 rcases gf hb with⟨z,e,rfl⟩|⟨p,e,hk⟩
 ·exact h F H σ ρ Q _ R e P
 ·exact h F H σ ρ Q _ R e λa F1 H1 u n1 n2 w=>go p a F1 H1 hk u n1 n2 w
theorem MT.qN{tt:TT}{fe:Fn Bool}{Q:Bool->Hp->Prop}{k:Bool->Option Out}(h:MT K C tt fe)(R:RE K C.toCf F H σ ρ)(hb:iz (fe ρ) k=some o)(P:PO' K C F D o)
  (go:∀ b F1 H1,k b=some o->Up F H F1 H1->Q b H1):tt σ H Q:=by
 rcases gf hb with⟨z,e,rfl⟩|⟨p,e,hk⟩
 ·exact h F H σ ρ Q _ R e P
 ·exact h F H σ ρ Q _ R e λF1 H1 u=>go p F1 H1 hk u
def dR:Sn:=λρ=>some (.nx ρ)
def bD(f g:Sn):Sn:=λρ=>match f ρ with
 |some (.nx ρ')=>g ρ'
 |x=>x
theorem cC:MS K C Qs dR:=λF H σ ρ D o R e P=>by
 cases e;exact P F H σ (bf.refl _) R
theorem aQ(h1:MS K C t f)(h2:MS K C u g):MS K C (Q9 t u) (bD f g):=by
 intro F H σ ρ D o R e P;unfold bD at e;split at e
 ·rename_i ρ' h;refine h1 F H σ ρ _ _ R h ?_;exact λF' H' σ' s R'=>h2 F' H' σ' ρ' D o R' e (P.up s)
 ·rename_i x hx;cases o with
  |nx ρ'=>exact absurd e (hx ρ')
  |bk ρ=>exact h1 F H σ _ _ _ R e P
  |ct ρ=>exact h1 F H σ _ _ _ R e P
  |rt p=>exact h1 F H σ _ _ _ R e P
  |ro p=>exact h1 F H σ _ _ _ R e P
  |rd p=>exact h1 F H σ _ _ _ R e P
  |ex z=>exact h1 F H σ _ _ _ R e P
def MG(K:Frag)(C:Cg)(g:TG)(tg:PV->Rho->Option Rho):Prop:=
 ∀ F H σ ρ v p ρ' Q,RE K C.toCf F H σ ρ->Rep K F v p->tg p ρ=some ρ'->(∀ σ',RE K C.toCf F H σ' ρ'->Q σ' H)->g v σ H Q
def MGs(K:Frag)(C:Cg)(g:TGs)(tg:List PV->Rho->Option Rho):Prop:=
 ∀ F H σ ρ vs ps ρ' Q,RE K C.toCf F H σ ρ->bW K F vs ps->tg ps ρ=some ρ'->(∀ σ',RE K C.toCf F H σ' ρ'->Q σ' H)->g vs σ H Q
def gN(i:Nat):PV->Rho->Option Rho:=λp ρ=>some (ρ.set i (some (.sh p)))
theorem aM(i:Nat):MG K C (uY i) (gN i):=λF H σ ρ v p ρ' Q R r e k=>by
 cases e;exact k _ (R.set i r)
def gsNil:List PV->Rho->Option Rho
 |[],ρ=>some ρ
 |_::_,_=>none
def gsCons(t:PV->Rho->Option Rho)(u:List PV->Rho->Option Rho):List PV->Rho->Option Rho
 |[],_=>none
 |p::l,ρ=>match t p ρ with
  |some ρ'=>u l ρ'
  |none=>none
theorem jC:MGs K C S8 gsNil:=λF H σ ρ vs ps ρ' Q R r e k=>by
 cases ps with
 |nil=>cases e;exact⟨r.jA,k σ R⟩
 |cons p l=>cases e
theorem cH{g:TG}{gs:TGs}{tg:PV->Rho->Option Rho}{tgs:List PV->Rho->Option Rho}(h:MG K C g tg)(hs:MGs K C gs tgs):MGs K C (Qt g gs) (gsCons tg tgs):=λF H σ ρ vs ps ρ' Q R r e k=>by
 cases ps with
 |nil=>cases e
 |cons p l=>
  obtain⟨v,ys,rfl,r1,r2⟩:=r.fJ;have e':(match tg p ρ with
   |some ρ'=>tgs l ρ'
   |none=>none)=some ρ':=e
  split at e'
  ·rename_i ρ1 h1;exact⟨v,ys,rfl,h F H σ ρ v p ρ1 _ R r1 h1 λσ' R'=>hs F H σ' ρ1 ys l ρ' Q R' r2 e' k⟩
  ·cases e'
def gT(n:Nat)(t:List PV->Rho->Option Rho):PV->Rho->Option Rho:=λp ρ=>match p with
 |.tup l=>if l.length=n then t l ρ else none
 |_=>none
theorem nA{n:Nat}{gs:TGs}{tgs:List PV->Rho->Option Rho}(hs:MGs K C gs tgs):MG K C (Rc K n gs) (gT n tgs):=λF H σ ρ v p ρ' Q R r e k=>by
 unfold gT at e;split at e
 ·rename_i l;split at e
  ·rename_i hn;obtain⟨a,xs,rfl,hq,rr⟩:=r.dz;exact⟨a,xs,rfl,R.rb.sub.tup hq,by rw[rr.1];exact hn,hs F H σ ρ xs l ρ' Q R rr e k⟩
  ·cases e
 ·cases e
def cI(fe:Fn PV)(tg:PV->Rho->Option Rho):Sn:=λρ=>iz (fe ρ) λp=>match tg p ρ with
 |some ρ'=>some (.nx ρ')
 |none=>none
theorem bu{fe:Fn PV}{gt:TG}{tg:PV->Rho->Option Rho}(h:MJ K C (aF K) te fe)(hg:MG K C gt tg):MS K C (ye te gt) (cI fe tg):=by
 intro F H σ ρ D o R e P;refine h.qN R e P λp v F1 H1 hk u a=>?_;split at hk
 ·rename_i ρ' h1;cases hk;exact hg F1 H1 σ ρ v p ρ' _ (R.up u) a h1 λσ' R'=>P F1 H1 σ' u.ff R'
 ·cases hk
def jW(i:Nat)(fe:Fn PV):Sn:=λρ=>iz (fe ρ) λp=>some (.nx (ρ.set i (some (.ow p))))
theorem gr{i:Nat}{fe:Fn PV}(nw:C.nw)(h:MO K C te fe):MS K C (ye te (uY i)) (jW i fe):=by
 intro F H σ ρ D o R e P;refine h.qN R e P λp a F1 H1 hk u n1 n2 w=>?_;cases hk;exact P F1 H1 _ u.ff ((R.up u).Uy i w n2 nw (R.rb.u6 n1) (λj q hj _=>R.apart n1 j q hj) (R.RC n1 u))
def dB(fe:Fn PV):Sn:=λρ=>iz (fe ρ) λp=>some (.rt p)
theorem bL{fe:Fn PV}(h:MJ K C (aF K) te fe):MS K C (IV te) (dB fe):=by
 intro F H σ ρ D o R e P;refine h.qN R e P λp v F1 H1 hk u a=>?_;cases hk;exact P v F1 H1 u.ff (R.rb.up u) a
def wL(fe:Fn PV):Sn:=λρ=>iz (fe ρ) λp=>some (.ro p)
theorem vQ{fe:Fn PV}(h:MO K C te fe):MS K C (IV te) (wL fe):=by
 intro F H σ ρ D o R e P;refine h.qN R e P λp a F1 H1 hk u n1 n2 w=>?_;cases hk;exact P a F1 H1 u.ff (R.rb.up u) w n2 (R.rb.u6 n1)
def ownAt(i:Nat)(ρ:Rho):Option PV:=match ρ[i]? with
 |some (some (.ow p))=>some p
 |_=>none
theorem cV{i:Nat}{p:PV}(h:ownAt i ρ=some p):ρ[i]?=some (some (.ow p)):=by
 unfold ownAt at h;split at h
 ·rename_i q hq;cases h;exact hq
 ·cases h
def jq(i:Nat):Sn:=λρ=>match ownAt i ρ with
 |some p=>some (.ro p)
 |none=>none
theorem jX(i:Nat)(hio:∀ a,¬C.io a):MS K C (IV (o9 i)) (jq i):=by
 intro F H σ ρ D o R e P;unfold jq at e;split at e
 ·rename_i p hp;cases e;obtain⟨a,e1,e2,e3,e4⟩:=R.ow i p (cV hp);exact⟨_,e1,P a F H (bf.refl _) R.rb e2 e3 (e4.resolve_left (hio a)).2⟩
 ·cases e
def Cm(i:Nat)(ρ:Rho):Rho:=match ownAt i ρ with
 |some p=>ρ.set i (some (.sh p))
 |none=>ρ
theorem K5(i:Nat)(hio:∀ a,¬C.io a)(h:MS K C t f):MS K C t (λρ=>f (Cm i ρ)):=by
 intro F H σ ρ D o R e P;have e:f (Cm i ρ)=some o:=e;unfold Cm at e;cases hp:ownAt i ρ with
 |none=>rw[hp] at e;exact h F H σ ρ D o R e P
 |some p=>
  rw[hp] at e;obtain⟨F',s,R'⟩:=R.frz (cV hp) λa _=>hio a;exact h F' H σ _ D o R' e (P.up s)
def pF(i:Nat)(fe:Fn PV):Sn:=λρ=>match ownAt i ρ with
 |some (.lst l)=>iz (fe ρ) λp=>if l.length<sizeLine then some (.nx (ρ.set i (some (.ow (.lst (l++[p])))))) else none
 |_=>none
theorem jt{i:Nat}{fe:Fn PV}(h:MJ K C (aF K) te fe):MS K C (Kg (tBM K "list" Hh (o9 i) (qR te By))) (pF i fe):=by
 intro F H σ ρ D o R e P;unfold pF at e;split at e
 ·rename_i l hl;obtain⟨a,g1,⟨xs,g2,g3⟩,g4,g5⟩:=R.ow i _ (cV hl);refine⟨_,g1,tyL g2,h.qN R e P λp v F1 H1 hk u w=>?_⟩;split at hk
  ·rename_i hlen;cases hk;obtain⟨a',k1,⟨ys,k2,k3⟩,k4,k5⟩:=(R.up u).ow i _ (cV hl);rw[g1] at k1;cases k1;refine⟨a,ys,v,rfl,rfl,k2,by rw[k3.1];exact hlen,?_⟩
   exact P F1 _ σ u.ff ((R.up u).write (cV hl) g1 ⟨_,aX,k3.snoc w⟩)
  ·cases hk
 ·cases e
def eY(fc:Fn Bool)(f g:Sn):Sn:=λρ=>iz (fc ρ) λb=>if b=true then f ρ else g ρ
theorem dg{c:TT}{fc:Fn Bool}(hc:MT K C c fc)(h1:MS K C t f)(h2:MS K C u g):MS K C (S6 c t u) (eY fc f g):=by
 intro F H σ ρ D o R e P;refine hc.qN R e P λb F1 H1 hk uu=>?_;cases b with
 |true=>rw[Zan rfl] at hk ⊢;exact h1 F1 H1 σ ρ D o (R.up uu) hk (P.up uu.ff)
 |false=>rw[Zap (by decide)] at hk ⊢;exact h2 F1 H1 σ ρ D o (R.up uu) hk (P.up uu.ff)
structure ItR(K:Frag)(J:It)(F:Hp)(l:List PV):Prop where
 stop:∀ F' H',bf F F'->bf F' H'->J.stop l.length H'
 go:∀ i F' H',i<l.length->bf F F'->bf F' H'->J.go i H'
 yld:∀ i F' H' x H'',i<l.length->bf F F'->bf F' H'->J.yld i H' x H''->∃ F'' p,Up F' H' F'' H''/\l[i]?=some p/\Rep K F'' x p
def MI(K:Frag)(C:Cg)(wi:TI)(f:Fn (List PV)):Prop:=
 ∀ F H σ ρ R' r,RE K C.toCf F H σ ρ->f ρ=some r->Pr C F (λl=>∀ J F' H',Up F H F' H'->ItR K J F' l->R' J H') r->wi σ H R'
def loop(tg:PV->Rho->Option Rho)(body:Sn):List PV->Rho->Option Out
 |[],ρ=>some (.nx ρ)
 |x::xs,ρ=>match tg x ρ with
  |none=>none
  |some ρ1=>match body ρ1 with
   |some (.nx ρ2)=>loop tg body xs ρ2
   |some (.ct ρ2)=>loop tg body xs ρ2
   |some (.bk ρ2)=>some (.nx ρ2)
   |x=>x
def jc(it:Fn (List PV))(tg:PV->Rho->Option Rho)(body:Sn):Sn:=λρ=>iz (it ρ) λl=>loop tg body l ρ
theorem Jq{J:It}{gt:TG}{tg:PV->Rho->Option Rho}{l:List PV}(hg:MG K C gt tg)(hb:MS K C t f)(hJ:ItR K J F l)(R:RE K C.toCf F H σ ρ)(e:loop tg f l ρ=some o)(P:PO' K C F D o):Ux J gt t D σ H:=by
 refine⟨λi m σ' H'=>∃ F' ρ',m=l.length-i/\i<=l.length/\bf F F'/\RE K C.toCf F' H' σ' ρ'/\loop tg f (l.drop i) ρ'=some o,⟨l.length,F,ρ,by simp,Zbg _,bf.refl _,R,by rw[Za8];exact e⟩,?_⟩
 rintro i m σ' H' ⟨F',ρ',rfl,hi,s,R',e'⟩;by_cases hlt:i<l.length
 ·refine .inr ⟨hJ.go i F' H' hlt s R'.rb.sub,λσ2 H2=>∃ F2 ρ2,bf F F2/\RE K C.toCf F2 H2 σ2 ρ2/\loop tg f (l.drop (i+1)) ρ2=some o,λσ2 H2 ⟨F2,ρ2,s2,R2,e2⟩=>⟨l.length-(i+1),by omega,F2,ρ2,rfl,hlt,s2,R2,e2⟩,λx H'' y=>?_⟩
  obtain⟨F'',p,u,ep,rx⟩:=hJ.yld i F' H' x H'' hlt s R'.rb.sub y;have ed:l.drop i=p::l.drop (i+1):=by
   rw[Za1 hlt];rw[Zab hlt] at ep;rw[Zaa ep]
  rw[ed,loop] at e';split at e'
  ·cases e'
  ·rename_i ρ1 h1;refine hg F'' H'' σ' ρ' x p ρ1 _ (R'.up u) rx h1 λσ1 R1=>?_;have sF:bf F F'':=s.trans u.ff;split at e'
   ·rename_i ρ2 h2;exact hb F'' H'' σ1 ρ1 _ _ R1 h2 λF3 H3 σ3 s3 R3=>⟨F3,ρ2,sF.trans s3,R3,e'⟩
   ·rename_i ρ2 h2;exact hb F'' H'' σ1 ρ1 _ _ R1 h2 λF3 H3 σ3 s3 R3=>⟨F3,ρ2,sF.trans s3,R3,e'⟩
   ·rename_i ρ2 h2;cases e';exact hb F'' H'' σ1 ρ1 _ _ R1 h2 λF3 H3 σ3 s3 R3=>P F3 H3 σ3 (sF.trans s3) R3
   ·rename_i n1 n2 n3;cases o with
    |nx ρ2=>exact absurd e' (n1 ρ2)
    |ct ρ2=>exact absurd e' (n2 ρ2)
    |bk ρ2=>exact absurd e' (n3 ρ2)
    |rt p=>exact hb F'' H'' σ1 ρ1 _ _ R1 e' (PO'.up (D:=D) P sF)
    |ro p=>exact hb F'' H'' σ1 ρ1 _ _ R1 e' (PO'.up (D:=D) P sF)
    |rd p=>exact hb F'' H'' σ1 ρ1 _ _ R1 e' (PO'.up (D:=D) P sF)
    |ex z=>exact hb F'' H'' σ1 ρ1 _ _ R1 e' (PX.up P sF)
 ·have ei:i=l.length:=by omega
  subst ei;rw[List.drop_length] at e';cases e';exact .inl ⟨hJ.stop F' H' s R'.rb.sub,P F' H' σ' s R'⟩
theorem dC{wi:TI}{it:Fn (List PV)}{gt:TG}{tg:PV->Rho->Option Rho}(hi:MI K C wi it)(hg:MG K C gt tg)(hb:MS K C t f):MS K C (S9 wi gt t) (jc it tg f):=by
 intro F H σ ρ D o R e P;rcases gf e with⟨z,e1,rfl⟩|⟨l,e1,hk⟩
 ·exact hi F H σ ρ _ _ R e1 P
 ·exact hi F H σ ρ _ _ R e1 λJ F' H' u hJ=>Jq hg hb hJ (R.up u) hk (P.up u.ff)
end
def eqL(f:PV->PV->Option Bool):List PV->List PV->Option Bool
 |[],[]=>some true
 |[],_::_=>some false
 |_::_,[]=>some false
 |x::xs,y::ys=>match f x y,eqL f xs ys with
  |some a,some b=>some (a&&b)
  |_,_=>none
def eqF:Nat->PV->PV->Option Bool
 |_,.non,.non=>some true
 |_,.non,.bl _=>some false
 |_,.non,.int _=>some false
 |_,.non,.str _=>some false
 |_,.bl _,.non=>some false
 |_,.bl a,.bl b=>some (decide (a=b))
 |_,.bl _,.str _=>some false
 |_,.int _,.non=>some false
 |_,.int a,.int b=>some (decide (a=b))
 |_,.int _,.str _=>some false
 |_,.str _,.non=>some false
 |_,.str _,.bl _=>some false
 |_,.str _,.int _=>some false
 |_,.str a,.str b=>some (decide (a=b))
 |_,.non,.tup _=>some false
 |_,.tup _,.non=>some false
 |_,.non,.lst _=>some false
 |_,.lst _,.non=>some false
 |_,.int _,.tup _=>some false
 |_,.tup _,.int _=>some false
 |_,.str _,.tup _=>some false
 |_,.tup _,.str _=>some false
 |_,.int _,.lst _=>some false
 |_,.lst _,.int _=>some false
 |_,.str _,.lst _=>some false
 |_,.lst _,.str _=>some false
 |_,.lst _,.tup _=>some false
 |_,.tup _,.lst _=>some false
 |n+1,.tup l,.tup m=>eqL (eqF n) l m
 |n+1,.lst l,.lst m=>if l.length=m.length then eqL (eqF n) l m else some false
 |_,_,_=>none
theorem pG{f:PV->PV->Option Bool}(h:∀ p r,f p p=some r->r=true):∀ {l:List PV}{r:Bool},eqL f l l=some r->r=true
 |[],r,e=>by cases e;rfl
 |x::xs,r,e=>by
  rw[eqL] at e;split at e
  ·rename_i a b h1 h2;cases e;rw[h x a h1,pG h h2];rfl
  ·cases e
theorem Cp:∀ (n:Nat) (p:PV) (r:Bool),eqF n p p=some r->r=true
 |n,p,r,e=>by
  induction n generalizing p r with
  |zero=>cases p<;>first|(cases (show some true=some r from e);rfl)|(cases (show some (decide _)=some r from e);exact ZaK rfl)|cases (show none=some r from e)
  |succ n ih=>
   cases p with
   |tup l=>exact pG ih e
   |lst l=>
    have e:(if l.length=l.length then eqL (eqF n) l l else some false)=some r:=e;rw[Zan rfl] at e;exact pG ih e
   |_=>first|(cases (show some true=some r from e);rfl)|(cases (show some (decide _)=some r from e);exact ZaK rfl)|cases (show none=some r from e)
theorem zN{f:PV->PV->Option Bool}:∀ {l m:List PV}{r:Bool},eqL f l m=some r->∃ e:Nat->Bool,(∀ (j:Nat) x y,l[j]?=some x->m[j]?=some y->f x y=some (e j))/\r=((List.range (min l.length m.length)).all e&&l.length==m.length)
 |[],[],r,h=>⟨λ_=>true,λj x y a=>by simp at a,by cases h;rfl⟩
 |[],_::_,r,h=>⟨λ_=>true,λj x y a=>by simp at a,by cases h;simp⟩
 |_::_,[],r,h=>⟨λ_=>true,λj x y _ a=>by simp at a,by cases h;simp⟩
 |x::xs,y::ys,r,h=>by
  rw[eqL] at h;split at h
  ·rename_i a b h1 h2;cases h;obtain⟨e,e1,e2⟩:=zN h2;refine⟨λj=>match j with|0=>a|j+1=>e j,λj x' y' a' b'=>?_,?_⟩
   ·cases j with
    |zero=>simp at a' b';subst a' b';exact h1
    |succ j=>exact e1 j x' y' (by simpa using a') (by simpa using b')
   ·rw[e2,ZaP,ZaP,Nat.succ_min_succ,List.range_succ_eq_map,List.all_cons,List.all_map];have:((xs.length+1==ys.length+1):Bool)=(xs.length==ys.length):=by
     rw[Bool.eq_iff_iff];simp
    rw[this];cases a<;>simp[Function.comp_def]
  ·cases h
section
variable{X:Cx}{pins:List (Addr×Obj)}{σ:St}{H:Hp}{s:Shared}
theorem Rep.kinds(I:Inv X pins σ H s){a:Addr}{xs ys:List V}(h1:SqL X.K H a xs)(h2:SqT X.K H a ys):False:=by
 obtain⟨_,_,p1,_⟩:=I.list h1;obtain⟨_,_,p2,_⟩:=I.tuple h2;obtain⟨o,n,e,c,_⟩:=p1;obtain⟨o',e',c',_⟩:=p2;rw[e] at e';cases e';rw[c] at c';exact absurd c' (by decide)
theorem Cq{xs:List V}{l m:List PV}(h1:xs.length=l.length)(h2:xs.length=m.length)(h:∀ (j:Nat) x p q,xs[j]?=some x->l[j]?=some p->m[j]?=some q->p=q):l=m:=by
 apply List.ext_getElem?
 intro j;by_cases hj:j<xs.length
 ·have hl:j<l.length:=by lia
  have hm:j<m.length:=by lia
  rw[Zab hl,Zab hm,h j xs[j] l[j] m[j] (by simp[hj]) (by simp[hl]) (by simp[hm])]
 ·rw[ZaD (by lia),ZaD (by lia)]
def HO.isDict:HO->Bool
 |.dK _=>true
 |.dT _=>true
 |_=>false
theorem Om{H:Hp}{a:Addr}{u v:HO}(hu:HO.isDict u=true)(hv:HO.isDict v=true)(h:Rd H a u)(h':Rd H a v):u=v:=by
 rcases h with h|⟨o,h⟩<;>rcases h' with h'|⟨o',h'⟩<;>rw[h] at h'<;>cases h'
 ·rfl
 ·cases hu
 ·cases hv
 ·rfl
theorem zO{H:Hp}{a:Addr}{u v:HO}(h:Rd H a u)(h':Rd H a v)(hu:HO.isDict u=true:=by rfl)(hv:HO.isDict v=true:=by rfl):u=v:=Om hu hv h h'
theorem Rep.noDict(I:Inv X pins σ H s){a:Addr}{ks:List (Key×V)}{ts:List (List Key×V)}(h1:Rd H a (.dK ks)\/Rd H a (.dT ts))(h2:(∃ xs,SqL X.K H a xs)\/∃ xs,SqT X.K H a xs):False:=by
 have d:∃ o es ep,s.heap.get? a=some o/\o.data=.dict es ep:=by
  rcases h1 with h1|h1
  ·obtain⟨_,_,_,_,o,es,ep,e,x,d,_⟩:=h1.ok I.hok;exact⟨o,es,ep,e,d⟩
  ·obtain⟨_,_,_,_,o,es,ep,e,x,d,_⟩:=h1.ok I.hok;exact⟨o,es,ep,e,d⟩
 obtain⟨o,es,ep,e,d⟩:=d;rcases h2 with⟨xs,h2⟩|⟨xs,h2⟩
 ·obtain⟨_,_,p1,_⟩:=I.list h2;obtain⟨o',n,e',_,_,d'⟩:=p1;rw[e] at e';cases e';rw[d] at d';cases d'
 ·obtain⟨_,_,p1,_⟩:=I.tuple h2;obtain⟨o',e',_,n,d'⟩:=p1;rw[e] at e';cases e';rw[d] at d';cases d'
theorem XO.at(I:Inv X pins σ H s){a C:Addr}{d:Option Addr}(h:H a=some (XO a C d)):∃ vs:Array Value,s.heap.get? a=some { cls:=.ref C,dict:=d,data:=.fields vs }:=(I.hok _ _ h).1
theorem XO.inj(I:Inv X pins σ H s){a C C':Addr}{d d':Option Addr}(h:H a=some (XO a C d))(h':H a=some (XO a C' d')):C=C'/\d=d':=by
 obtain⟨vs,e⟩:=XO.at I h;obtain⟨vs',e'⟩:=XO.at I h';rw[e] at e';cases e';exact⟨rfl,rfl⟩
theorem XO.noSeq(I:Inv X pins σ H s){a C:Addr}{d:Option Addr}(h:H a=some (XO a C d))(h2:(∃ xs,SqL X.K H a xs)\/∃ xs,SqT X.K H a xs):False:=by
 obtain⟨vs,e⟩:=XO.at I h;rcases h2 with⟨xs,h2⟩|⟨xs,h2⟩
 ·obtain⟨_,_,p1,_⟩:=I.list h2;obtain⟨o',n,e',_,_,d'⟩:=p1;rw[e] at e';cases e';cases d'
 ·obtain⟨_,_,p1,_⟩:=I.tuple h2;obtain⟨o',e',_,n,d'⟩:=p1;rw[e] at e';cases e';cases d'
theorem XNm.inj{K:Frag}{C:Addr}{c c':Str}(a:XNm K C c)(b:XNm K C c'):c=c':=by
 obtain⟨cd,h1,h2⟩:=a.cl;obtain⟨cd',h1',h2'⟩:=b.cl;rw[h1] at h1';cases h1';exact h2.symm.trans h2'
theorem Rep.inj(I:Inv X pins σ H s){x:V}{p:PV}(h:Rep X.K H x p):∀ {q:PV},Rep X.K H x q->p=q:=by
 have pairs:∀ {κ:Type}{xs:List (κ×V)}{l m:List (κ×PV)},xs.map (·.1)=l.map (·.1)->xs.map (·.1)=m.map (·.1)->(∀ (j:Nat) x p q,xs[j]?=some x->l[j]?=some p->m[j]?=some q->p.2=q.2)->l=m:=by
  intro κ xs l m h1 h2 h3;have l1:xs.length=l.length:=by simpa using congrArg List.length h1
  have l2:xs.length=m.length:=by simpa using congrArg List.length h2
  apply List.ext_getElem?
  intro j;by_cases hj:j<xs.length
  ·have hl:j<l.length:=by lia
   have hm:j<m.length:=by lia
   rw[Zab hl,Zab hm];have k:=congrArg (·[j]?) (h1.symm.trans h2);simp[hl,hm] at k;have v:=h3 j xs[j] l[j] m[j] (by simp[hj]) (by simp[hl]) (by simp[hm])
   rw[Prod.ext k v]
  ·rw[ZaD (by lia),ZaD (by lia)]
 induction h with
 |non=>intro q h';cases h';rfl
 |bl=>intro q h';cases h';rfl
 |int=>intro q h';cases h';rfl
 |str=>intro q h';cases h';rfl
 |ty=>intro q h';cases h';rfl
 |@tup a xs l h hl _ ih=>
  intro q h';have h:=SqT.of (K:=X.K) h;cases h' with
  |tup h2 hl2 hr2=>
   cases I.yC h (SqT.of (K:=X.K) h2);rw[Cq hl hl2 λj x p q e1 e2 e3=>ih j x p e1 e2 (hr2 j x q e1 e3)]
  |lst h2=>exact(Rep.kinds I h2 h).elim
  |dk h2=>exact(Rep.noDict I (ts:=[]) (.inl h2) (.inr ⟨_,h⟩)).elim
  |dt h2=>exact(Rep.noDict I (ks:=[]) (.inr h2) (.inr ⟨_,h⟩)).elim
  |exc _ h2=>exact(XO.noSeq I h2 (.inr ⟨_,h⟩)).elim
  |exc0 _ h2=>exact(XO.noSeq I h2 (.inr ⟨_,h⟩)).elim
 |@lst a xs l h hl _ ih=>
  intro q h';cases h' with
  |tup h2=>exact(Rep.kinds I h (SqT.of h2)).elim
  |lst h2 hl2 hr2=>
   cases I.vZ h h2;rw[Cq hl hl2 λj x p q e1 e2 e3=>ih j x p e1 e2 (hr2 j x q e1 e3)]
  |dk h2=>exact(Rep.noDict I (ts:=[]) (.inl h2) (.inl ⟨_,h⟩)).elim
  |dt h2=>exact(Rep.noDict I (ks:=[]) (.inr h2) (.inl ⟨_,h⟩)).elim
  |exc _ h2=>exact(XO.noSeq I h2 (.inl ⟨_,h⟩)).elim
  |exc0 _ h2=>exact(XO.noSeq I h2 (.inl ⟨_,h⟩)).elim
 |@dk a xs l h hl _ ih=>
  intro q h';cases h' with
  |tup h2=>exact(Rep.noDict I (ts:=[]) (.inl h) (.inr ⟨_,SqT.of h2⟩)).elim
  |lst h2=>exact(Rep.noDict I (ts:=[]) (.inl h) (.inl ⟨_,h2⟩)).elim
  |dk h2 hl2 hr2=>
   cases (zO h h2);rw[pairs hl hl2 λj x p q e1 e2 e3=>ih j x p e1 e2 (hr2 j x q e1 e3)]
  |dt h2=>cases zO h h2
  |exc _ h2=>rcases h with h|⟨o,h⟩<;>rw[h] at h2<;>cases h2
  |exc0 _ h2=>rcases h with h|⟨o,h⟩<;>rw[h] at h2<;>cases h2
 |@dt a xs l h hl _ ih=>
  intro q h';cases h' with
  |tup h2=>exact(Rep.noDict I (ks:=[]) (.inr h) (.inr ⟨_,SqT.of h2⟩)).elim
  |lst h2=>exact(Rep.noDict I (ks:=[]) (.inr h) (.inl ⟨_,h2⟩)).elim
  |dk h2=>cases zO h h2
  |dt h2 hl2 hr2=>
   cases (zO h h2);rw[pairs hl hl2 λj x p q e1 e2 e3=>ih j x p e1 e2 (hr2 j x q e1 e3)]
  |exc _ h2=>rcases h with h|⟨o,h⟩<;>rw[h] at h2<;>cases h2
  |exc0 _ h2=>rcases h with h|⟨o,h⟩<;>rw[h] at h2<;>cases h2
 |@exc a C dx c xs l nm h hd hl _ ih=>
  intro q h';cases h' with
  |tup h2=>exact(XO.noSeq I h (.inr ⟨_,SqT.of h2⟩)).elim
  |lst h2=>exact(XO.noSeq I h (.inl ⟨_,h2⟩)).elim
  |dk h2=>rcases h2 with h2|⟨o,h2⟩<;>rw[h] at h2<;>cases h2
  |dt h2=>rcases h2 with h2|⟨o,h2⟩<;>rw[h] at h2<;>cases h2
  |exc nm2 h2 hd2 hl2 hr2=>
   obtain⟨rfl,e⟩:=XO.inj I h h2;cases e;rw[hd] at hd2;cases hd2;cases XNm.inj nm nm2;rw[pairs hl hl2 λj x p q e1 e2 e3=>ih j x p e1 e2 (hr2 j x q e1 e3)]
  |exc0 nm2 h2=>cases (XO.inj I h h2).2
 |@exc0 a C c nm h=>
  intro q h';cases h' with
  |tup h2=>exact(XO.noSeq I h (.inr ⟨_,SqT.of h2⟩)).elim
  |lst h2=>exact(XO.noSeq I h (.inl ⟨_,h2⟩)).elim
  |dk h2=>rcases h2 with h2|⟨o,h2⟩<;>rw[h] at h2<;>cases h2
  |dt h2=>rcases h2 with h2|⟨o,h2⟩<;>rw[h] at h2<;>cases h2
  |exc nm2 h2=>cases (XO.inj I h h2).2
  |exc0 nm2 h2=>
   obtain⟨rfl,_⟩:=XO.inj I h h2;cases XNm.inj nm nm2;rfl
theorem K6(I:Inv X pins σ H s):∀ {A:Around}{x y:V}{p q:PV}{r:Bool}{u v:Value},A.units<cLine->eqF 0 p q=some r->Rep X.K H x p->Rep X.K H y q->RelV x u->RelV y v ->
  SeqAt.RcAt A s u v r/\SeqAt.EqAt A s u v r/\SeqAt.RcNeAt A s u v (!r):=by
 intro A x y p q r u v hu e rx ry ru rv;have hu0:A.units<cLine:=hu
 match p,q,e with
 |.non,.non,e=>
  have e:=Zaa e;subst e;cases Rep.fD rx;cases Rep.fD ry;cases ru;cases rv;exact⟨SeqAt.RcAt.none_none,SeqAt.EqAt.same _,SeqAt.RcNeAt.none_none⟩
 |.non,.bl b,e=>
  have e:=Zaa e;subst e;cases Rep.fD rx;cases Rep.fY ry;cases ru;cases rv;exact⟨SeqAt.RcAt.none_bool _,SeqAt.EqAt.none_bool _,SeqAt.RcNeAt.none_bool _⟩
 |.non,.int b,e=>
  have e:=Zaa e;subst e;cases Rep.fD rx;cases Rep.bI ry;cases ru;obtain⟨tb,rfl⟩:=rv;exact⟨SeqAt.RcAt.none_int _ _,SeqAt.EqAt.none_int _ _,SeqAt.RcNeAt.none_int _ _⟩
 |.non,.str b,e=>
  have e:=Zaa e;subst e;cases Rep.fD rx;cases Rep.cu ry;cases ru;obtain⟨tb,rfl⟩:=rv;exact⟨SeqAt.RcAt.none_str _ _,SeqAt.EqAt.none_str _ _,SeqAt.RcNeAt.none_str _ _⟩
 |.bl a,.non,e=>
  have e:=Zaa e;subst e;cases Rep.fY rx;cases Rep.fD ry;cases ru;cases rv;exact⟨SeqAt.RcAt.bool_none _,SeqAt.EqAt.bool_none _,SeqAt.RcNeAt.bool_none _⟩
 |.bl a,.bl b,e=>
  have e:=Zaa e;subst e;cases Rep.fY rx;cases Rep.fY ry;cases ru;cases rv;rw[<-Bool.beq_eq_decide_eq];exact⟨SeqAt.RcAt.bool_bool _ _,SeqAt.EqAt.bool_bool _ _,SeqAt.RcNeAt.bool_bool _ _⟩
 |.bl a,.str b,e=>
  have e:=Zaa e;subst e;cases Rep.fY rx;cases Rep.cu ry;cases ru;obtain⟨tb,rfl⟩:=rv;exact⟨SeqAt.RcAt.bool_str _ _ _,SeqAt.EqAt.bool_str _ _ _,SeqAt.RcNeAt.bool_str _ _ _⟩
 |.int a,.non,e=>
  have e:=Zaa e;subst e;cases Rep.bI rx;cases Rep.fD ry;obtain⟨ta,rfl⟩:=ru;cases rv;exact⟨SeqAt.RcAt.int_none _ _,SeqAt.EqAt.int_none _ _,SeqAt.RcNeAt.int_none _ _⟩
 |.int a,.int b,e=>
  have e:=Zaa e;subst e;cases Rep.bI rx;cases Rep.bI ry;obtain⟨ta,rfl⟩:=ru;obtain⟨tb,rfl⟩:=rv;rw[<-Bool.beq_eq_decide_eq];exact⟨SeqAt.RcAt.int_int _ _ _ _,SeqAt.EqAt.int_int _ _ _ _,SeqAt.RcNeAt.int_int _ _ _ _⟩
 |.int a,.str b,e=>
  have e:=Zaa e;subst e;cases Rep.bI rx;cases Rep.cu ry;obtain⟨ta,rfl⟩:=ru;obtain⟨tb,rfl⟩:=rv;exact⟨SeqAt.RcAt.int_str _ _ _ _,SeqAt.EqAt.int_str _ _ _ _,SeqAt.RcNeAt.int_str _ _ _ _⟩
 |.str a,.non,e=>
  have e:=Zaa e;subst e;cases Rep.cu rx;cases Rep.fD ry;obtain⟨ta,rfl⟩:=ru;cases rv;exact⟨SeqAt.RcAt.str_none _ _,SeqAt.EqAt.str_none _ _,SeqAt.RcNeAt.str_none _ _⟩
 |.str a,.bl b,e=>
  have e:=Zaa e;subst e;cases Rep.cu rx;cases Rep.fY ry;obtain⟨ta,rfl⟩:=ru;cases rv;exact⟨SeqAt.RcAt.str_bool _ _ _,SeqAt.EqAt.str_bool _ _ _,SeqAt.RcNeAt.str_bool _ _ _⟩
 |.str a,.int b,e=>
  have e:=Zaa e;subst e;cases Rep.cu rx;cases Rep.bI ry;obtain⟨ta,rfl⟩:=ru;obtain⟨tb,rfl⟩:=rv;exact⟨SeqAt.RcAt.str_int _ _ _ _,SeqAt.EqAt.str_int _ _ _ _,SeqAt.RcNeAt.str_int _ _ _ _⟩
 |.str a,.str b,e=>
  have e:=Zaa e;subst e;cases Rep.cu rx;cases Rep.cu ry;obtain⟨ta,rfl⟩:=ru;obtain⟨tb,rfl⟩:=rv;rw[<-Bool.beq_eq_decide_eq];exact⟨SeqAt.RcAt.str_str _ _ _ _,SeqAt.EqAt.str_str _ _ _ _,SeqAt.RcNeAt.str_str _ _ _ _⟩
 |.tup a,.non,e=>
  have e:=Zaa e;subst e;obtain⟨aa,xsa,rfl,ha,_⟩:=rx.dz;cases ru;obtain⟨_,_,pa,_⟩:=I.tuple ha;cases Rep.fD ry;cases rv;exact⟨SeqAt.RcAt.tuple_none pa hu0,SeqAt.EqAt.tuple_none pa hu0,SeqAt.RcNeAt.tuple_none pa hu0⟩
 |.non,.tup b,e=>
  have e:=Zaa e;subst e;cases Rep.fD rx;cases ru;obtain⟨ab,xsb,rfl,hb,_⟩:=ry.dz;cases rv;obtain⟨_,_,pb,_⟩:=I.tuple hb;exact⟨SeqAt.RcAt.none_tuple pb hu0,SeqAt.EqAt.none_tuple pb hu0,SeqAt.RcNeAt.none_tuple pb hu0⟩
 |.tup a,.int b,e=>
  have e:=Zaa e;subst e;obtain⟨aa,xsa,rfl,ha,_⟩:=rx.dz;cases ru;obtain⟨_,_,pa,_⟩:=I.tuple ha;cases Rep.bI ry;obtain⟨tb,rfl⟩:=rv;exact⟨SeqAt.RcAt.tuple_int _ _ pa hu0,SeqAt.EqAt.tuple_int _ _ pa hu0,SeqAt.RcNeAt.tuple_int _ _ pa hu0⟩
 |.int a,.tup b,e=>
  have e:=Zaa e;subst e;cases Rep.bI rx;obtain⟨ta,rfl⟩:=ru;obtain⟨ab,xsb,rfl,hb,_⟩:=ry.dz;cases rv;obtain⟨_,_,pb,_⟩:=I.tuple hb;exact⟨SeqAt.RcAt.int_tuple _ _ pb hu0,SeqAt.EqAt.int_tuple _ _ pb hu0,SeqAt.RcNeAt.int_tuple _ _ pb hu0⟩
 |.tup a,.str b,e=>
  have e:=Zaa e;subst e;obtain⟨aa,xsa,rfl,ha,_⟩:=rx.dz;cases ru;obtain⟨_,_,pa,_⟩:=I.tuple ha;cases Rep.cu ry;obtain⟨tb,rfl⟩:=rv;exact⟨SeqAt.RcAt.tuple_str _ _ pa hu0,SeqAt.EqAt.tuple_str _ _ pa hu0,SeqAt.RcNeAt.tuple_str _ _ pa hu0⟩
 |.str a,.tup b,e=>
  have e:=Zaa e;subst e;cases Rep.cu rx;obtain⟨ta,rfl⟩:=ru;obtain⟨ab,xsb,rfl,hb,_⟩:=ry.dz;cases rv;obtain⟨_,_,pb,_⟩:=I.tuple hb;exact⟨SeqAt.RcAt.str_tuple _ _ pb hu0,SeqAt.EqAt.str_tuple _ _ pb hu0,SeqAt.RcNeAt.str_tuple _ _ pb hu0⟩
 |.lst a,.non,e=>
  have e:=Zaa e;subst e;obtain⟨aa,xsa,rfl,ha,_⟩:=rx.cN;cases ru;obtain⟨_,_,pa,_⟩:=I.list ha;cases Rep.fD ry;cases rv;exact⟨SeqAt.RcAt.list_none pa.isList hu0,SeqAt.EqAt.list_none pa.isList hu0,SeqAt.RcNeAt.list_none pa.isList hu0⟩
 |.non,.lst b,e=>
  have e:=Zaa e;subst e;cases Rep.fD rx;cases ru;obtain⟨ab,xsb,rfl,hb,_⟩:=ry.cN;cases rv;obtain⟨_,_,pb,_⟩:=I.list hb;exact⟨SeqAt.RcAt.none_list pb.isList hu0,SeqAt.EqAt.none_list pb.isList hu0,SeqAt.RcNeAt.none_list pb.isList hu0⟩
 |.lst a,.int b,e=>
  have e:=Zaa e;subst e;obtain⟨aa,xsa,rfl,ha,_⟩:=rx.cN;cases ru;obtain⟨_,_,pa,_⟩:=I.list ha;cases Rep.bI ry;obtain⟨tb,rfl⟩:=rv;exact⟨SeqAt.RcAt.list_int _ _ pa.isList hu0,SeqAt.EqAt.list_int _ _ pa.isList hu0,SeqAt.RcNeAt.list_int _ _ pa.isList hu0⟩
 |.int a,.lst b,e=>
  have e:=Zaa e;subst e;cases Rep.bI rx;obtain⟨ta,rfl⟩:=ru;obtain⟨ab,xsb,rfl,hb,_⟩:=ry.cN;cases rv;obtain⟨_,_,pb,_⟩:=I.list hb;exact⟨SeqAt.RcAt.int_list _ _ pb.isList hu0,SeqAt.EqAt.int_list _ _ pb.isList hu0,SeqAt.RcNeAt.int_list _ _ pb.isList hu0⟩
 |.lst a,.str b,e=>
  have e:=Zaa e;subst e;obtain⟨aa,xsa,rfl,ha,_⟩:=rx.cN;cases ru;obtain⟨_,_,pa,_⟩:=I.list ha;cases Rep.cu ry;obtain⟨tb,rfl⟩:=rv;exact⟨SeqAt.RcAt.list_str _ _ pa.isList hu0,SeqAt.EqAt.list_str _ _ pa.isList hu0,SeqAt.RcNeAt.list_str _ _ pa.isList hu0⟩
 |.str a,.lst b,e=>
  have e:=Zaa e;subst e;cases Rep.cu rx;obtain⟨ta,rfl⟩:=ru;obtain⟨ab,xsb,rfl,hb,_⟩:=ry.cN;cases rv;obtain⟨_,_,pb,_⟩:=I.list hb;exact⟨SeqAt.RcAt.str_list _ _ pb.isList hu0,SeqAt.EqAt.str_list _ _ pb.isList hu0,SeqAt.RcNeAt.str_list _ _ pb.isList hu0⟩
 |.lst a,.tup b,e=>
  have e:=Zaa e;subst e;obtain⟨aa,xsa,rfl,ha,_⟩:=rx.cN;cases ru;obtain⟨_,_,pa,_⟩:=I.list ha;obtain⟨ab,xsb,rfl,hb,_⟩:=ry.dz;cases rv;obtain⟨_,_,pb,_⟩:=I.tuple hb;exact⟨SeqAt.RcAt.list_tuple pa.isList pb hu0,SeqAt.EqAt.list_tuple pa.isList pb hu0,SeqAt.RcNeAt.list_tuple pa.isList pb hu0⟩
 |.tup a,.lst b,e=>
  have e:=Zaa e;subst e;obtain⟨aa,xsa,rfl,ha,_⟩:=rx.dz;cases ru;obtain⟨_,_,pa,_⟩:=I.tuple ha;obtain⟨ab,xsb,rfl,hb,_⟩:=ry.cN;cases rv;obtain⟨_,_,pb,_⟩:=I.list hb;exact⟨SeqAt.RcAt.tuple_list pa pb.isList hu0,SeqAt.EqAt.tuple_list pa pb.isList hu0,SeqAt.RcNeAt.tuple_list pa pb.isList hu0⟩
def K7:PV->PV->Bool
 |.tup _,.tup _=>true
 |.lst _,.lst _=>true
 |_,_=>false
theorem K8{n:Nat}{p q:PV}(h:K7 p q=false):eqF (n+1) p q=eqF 0 p q:=by
 cases p<;>cases q<;>first|rfl|cases h
theorem Jr:∀ {p q:PV},K7 p q=true->(∃ l m,p=.tup l/\q=.tup m)\/∃ l m,p=.lst l/\q=.lst m
 |.tup l,q,h=>by
  cases q with
  |tup m=>exact .inl ⟨l,m,rfl,rfl⟩
  |_=>cases h
 |.lst l,q,h=>by
  cases q with
  |lst m=>exact .inr ⟨l,m,rfl,rfl⟩
  |_=>cases h
theorem K9(I:Inv X pins σ H s):∀ (n:Nat) {A:Around}{x y:V}{p q:PV}{r:Bool}{u v:Value},A.units+n<cLine->eqF n p q=some r->Rep X.K H x p->Rep X.K H y q->RelV x u->RelV y v ->
  SeqAt.RcAt A s u v r/\SeqAt.EqAt A s u v r/\SeqAt.RcNeAt A s u v (!r):=by
 intro n;induction n with
 |zero=>exact λhu e=>K6 I (by lia) e
 |succ n ih=>
  intro A x y p q r u v hu e rx ry ru rv;have hu0:A.units<cLine:=by lia
  cases hr:K7 p q with
  |false=>exact K6 I hu0 (by rw[<-K8 hr];exact e) rx ry ru rv
  |true=>
  rcases Jr hr with⟨l,m,rfl,rfl⟩|⟨l,m,rfl,rfl⟩
  ·have e:eqL (eqF n) l m=some r:=e;obtain⟨a,xs,rfl,ha,r1⟩:=rx.dz;obtain⟨b,ys,rfl,hb,r2⟩:=ry.dz;cases ru;cases rv;obtain⟨i1,v1,t1,_⟩:=I.tuple ha;obtain⟨i2,v2,t2,_⟩:=I.tuple hb;obtain⟨g,g1,g2⟩:=zN e;have hj:∀ j (h1:j<i1.toArray.size) (h2:j<i2.toArray.size),SeqAt.EqAt A.in1 s i1.toArray[j] i2.toArray[j] (g j):=λj h1 h2=>by
    obtain⟨x,hx,rx'⟩:=tK v1 h1;obtain⟨y,hy,ry'⟩:=tK v2 h2;obtain⟨p',hp,rp⟩:=r1.got hx;obtain⟨q',hq,rq⟩:=r2.got hy;exact(ih (A:=A.in1) (show A.units+1+n<cLine by lia) (g1 j p' q' hp hq) rp rq rx' ry').2.1
   have rc:=SeqAt.RcAt.tuples (A:=A) (e:=g) t1 t2 hu0 hj;have rn:=SeqAt.RcNeAt.tuples (A:=A) (e:=g) t1 t2 hu0 hj;rw[List.size_toArray,List.size_toArray,<-v1.length,<-v2.length,r1.1,r2.1,<-g2] at rc rn;refine⟨rc,?_,rn⟩;by_cases hab:a=b
   ·subst hab;have epq:PV.tup l=PV.tup m:=Rep.inj I rx ry;cases epq;have er:=pG (Cp n) e;subst er;exact SeqAt.EqAt.same _
   ·exact .of_refs hab rc
  ·obtain⟨a,xs,rfl,ha,r1⟩:=rx.cN;obtain⟨b,ys,rfl,hb,r2⟩:=ry.cN;cases ru;cases rv;obtain⟨i1,v1,t1,_⟩:=I.list ha;obtain⟨i2,v2,t2,_⟩:=I.list hb;have e:(if l.length=m.length then eqL (eqF n) l m else some false)=some r:=e;split at e
   ·rename_i hlm;obtain⟨g,g1,g2⟩:=zN e;have hz:i1.toArray.size=i2.toArray.size:=by rw[List.size_toArray,List.size_toArray,<-v1.length,<-v2.length,r1.1,r2.1];exact hlm
    have hj:∀ j (h1:j<i1.toArray.size) (h2:j<i2.toArray.size),SeqAt.EqAt A.in1 s i1.toArray[j] i2.toArray[j] (g j):=λj h1 h2=>by
     obtain⟨x,hx,rx'⟩:=tK v1 h1;obtain⟨y,hy,ry'⟩:=tK v2 h2;obtain⟨p',hp,rp⟩:=r1.got hx;obtain⟨q',hq,rq⟩:=r2.got hy;exact(ih (A:=A.in1) (show A.units+1+n<cLine by lia) (g1 j p' q' hp hq) rp rq rx' ry').2.1
    have rc:=SeqAt.RcAt.lists (A:=A) (e:=g) t1.isList t2.isList hz hu0 hj;have e2:r=(List.range l.length).all g:=by rw[g2,<-hlm,Nat.min_self,beq_self_eq_true,Bool.and_true]
    have rn:=SeqAt.RcNeAt.lists (A:=A) (e:=g) t1.isList t2.isList hz hu0 hj;rw[List.size_toArray,<-v1.length,r1.1,<-e2] at rc rn;refine⟨rc,?_,rn⟩;by_cases hab:a=b
    ·subst hab;have epq:PV.lst l=PV.lst m:=Rep.inj I rx ry;cases epq;have er:=pG (Cp n) e;subst er;exact SeqAt.EqAt.same _
    ·exact .of_refs hab rc
   ·rename_i hlm;cases e;have hz:(i1.toArray.size != i2.toArray.size)=true:=by rw[List.size_toArray,List.size_toArray,<-v1.length,<-v2.length,r1.1,r2.1];simpa using hlm
    have rc:=SeqAt.RcAt.lists_lengths (A:=A) t1.isList t2.isList hz hu0;have hab:a≠b:=λz=>by
     subst z;have epq:PV.lst l=PV.lst m:=Rep.inj I rx ry;cases epq;exact hlm rfl
    exact⟨rc,.of_refs hab rc,SeqAt.RcNeAt.lists_lengths (A:=A) t1.isList t2.isList hz hu0⟩
end
section
variable{X:Cx}{k:Nat}
theorem OpR.or{f:Value->Value->Sem Value}{r r':R2}(h:OpR X f r)(h':OpR X f r'):OpR X f (λx y H Q=>r x y H Q\/r' x y H Q):=by
 intro pins s σ H x y v u Q I rx ry q;rcases q with q|q
 ·exact h pins s σ H x y v u Q I rx ry q
 ·exact h' pins s σ H x y v u Q I rx ry q
def RL(K:Frag):R2:=λx y H Q=>∃ p q r,Rep K H x p/\Rep K H y q/\eqF 32 p q=some r/\Q (.bl r) H
def TV(K:Frag):R2:=λx y H Q=>∃ p q r,Rep K H x p/\Rep K H y q/\eqF 32 p q=some r/\Q (.bl (!r)) H
theorem dD(hr:fX k X.A):OpR X (compareOp .Eq) (RL X.K):=by
 intro pins s σ H x y v u Q I rx ry h;obtain⟨p,q,r,h1,h2,e,h3⟩:=h;exact(K9 I 32 (Fx hr) e h1 h2 rx ry).1 X.prog X.w X.xe _ ⟨.bl r,H,I,rfl,h3⟩
theorem uI(hr:fX k X.A):OpR X (compareOp .NotEq) (TV X.K):=by
 intro pins s σ H x y v u Q I rx ry h;obtain⟨p,q,r,h1,h2,e,h3⟩:=h;exact(K9 I 32 (Fx hr) e h1 h2 rx ry).2.2 X.prog X.w X.xe _ ⟨.bl (!r),H,I,rfl,h3⟩
def inF(p:PV):List PV->Option Bool
 |[]=>some false
 |x::xs=>match eqF 31 x p,inF p xs with
  |some a,some b=>some (a||b)
  |_,_=>none
theorem Hm{p:PV}:∀ {l:List PV}{r:Bool},inF p l=some r->∃ e:Nat->Bool,(∀ (j:Nat) x,l[j]?=some x->eqF 31 x p=some (e j))/\r=(List.range l.length).any e
 |[],r,h=>⟨λ_=>true,λj x a=>by simp at a,by cases h;rfl⟩
 |x::xs,r,h=>by
  rw[inF] at h;split at h
  ·rename_i a b h1 h2;cases h;obtain⟨e,e1,e2⟩:=Hm h2;refine⟨λj=>match j with|0=>a|j+1=>e j,λj x' a'=>?_,?_⟩
   ·cases j with
    |zero=>simp at a';subst a';exact h1
    |succ j=>exact e1 j x' (by simpa using a')
   ·rw[e2,ZaP,List.range_succ_eq_map,Zbn,List.any_map];rfl
  ·cases h
def TX(K:Frag)(neg:Bool):R2:=λx y H Q=>∃ p l r,Rep K H x p/\(Rep K H y (.lst l)\/Rep K H y (.tup l))/\inF p l=some r/\Q (.bl (if neg=true then !r else r)) H
theorem Cr{pins:List (Addr×Obj)}{σ:St}{H:Hp}{s:Shared}(I:Inv X pins σ H s)(hr:fX k X.A){x:V}{v:Value}{p:PV}{xs:List V}{its:List Value}{l:List PV}{r:Bool}(rx:RelV x v)(h1:Rep X.K H x p)(rv:Vals xs its)(hl:bW X.K H xs l)(e:inF p l=some r) :
  ∃ f:Value->Bool,(∀ y,y∈its.toArray->SeqAt.EqAt X.A.in1 s y v (f y))/\its.toArray.any f=r:=by
 obtain⟨g,g1,g2⟩:=Hm e;have key:∀ w'∈its,∃ j,∃ hj:j<its.length,its[j]=w':=λw' hw=>by
  obtain⟨j,hj,e⟩:=List.mem_iff_getElem.mp hw;exact⟨j,hj,e⟩
 have look:∀ (j:Nat) (hj:j<its.length),∃ z q,l[j]?=some q/\RelV z its[j]/\Rep X.K H z q/\eqF 31 q p=some (g j):=λj hj=>by
  obtain⟨z,hz,rz⟩:=tK rv (j:=j) (by simpa using hj)
  obtain⟨q,hq,rq⟩:=hl.got hz;exact⟨z,q,hq,by simpa using rz,rq,g1 j q hq⟩
 classical
 let f:Value->Bool:=λw'=>if h:∃ j,∃ hj:j<its.length,its[j]=w' then g (Classical.choose h) else false
 have fe:∀ (j:Nat) (hj:j<its.length),f its[j]=g j:=λj hj=>by
  have hx:∃ i,∃ hi:i<its.length,its[i]=its[j]:=⟨j,hj,rfl⟩;show(if h:∃ i,∃ hi:i<its.length,its[i]=its[j] then g (Classical.choose h) else false)=g j
  rw[dif_pos hx];obtain⟨h1',h2'⟩:=Classical.choose_spec hx;generalize Classical.choose hx=i at h1' h2' ⊢
  obtain⟨z,q,_,rz,rq,eq1⟩:=look i h1';obtain⟨z',q',_,rz',rq',eq2⟩:=look j hj;rw[h2'] at rz;cases rz.inj rz';cases Rep.inj I rq rq';rw[eq1] at eq2;exact Zaa eq2
 refine⟨f,λy hy=>?_,?_⟩
 ·obtain⟨j,hj,e1⟩:=key y (by simpa using hy)
  obtain⟨z,q,_,rz,rq,eq1⟩:=look j hj;rw[<-e1,fe j hj];exact(K9 I 31 (A:=X.A.in1) (show X.A.units+1+31<cLine by have:=Fx hr;lia) eq1 rq h1 rz rx).2.1
 ·have hlen:its.length=l.length:=by rw[<-rv.length,hl.1]
  rw[g2,show its.toArray.any f=its.any f by simp,Bool.eq_iff_iff,List.any_eq_true,List.any_eq_true]
  constructor
  ·rintro⟨w',hw,hf⟩;obtain⟨j,hj,e1⟩:=key w' hw;exact⟨j,ZaS.mpr (by lia),by rw[<-fe j hj,e1];exact hf⟩
  ·rintro⟨j,hj,hf⟩;have hj':j<its.length:=by rw[hlen];exact ZaS.mp hj
   exact⟨its[j],List.getElem_mem hj',by rw[fe j hj'];exact hf⟩
theorem Js(hr:fX k X.A):OpR X (compareOp .NotIn) (TX X.K true):=by
 intro pins s σ H x y v u Q I rx ry h;obtain⟨p,l,r,h1,h2,e,q⟩:=h;rcases h2 with h2|h2
 ·obtain⟨a,xs,rfl,hq,rr⟩:=h2.cN;cases ry;obtain⟨its,rv,pl,_⟩:=I.list hq;obtain⟨f,f1,f2⟩:=Cr I hr rx h1 rv rr e;exact SeqAt.notIn_listAt f pl.isList f1 (by rw[f2];exact⟨.bl _,H,I,rfl,q⟩)
 ·obtain⟨a,xs,rfl,hq,rr⟩:=h2.dz;cases ry;obtain⟨its,rv,pl,_⟩:=I.tuple hq;obtain⟨f,f1,f2⟩:=Cr I hr rx h1 rv rr e;exact SeqAt.notIn_tupleAt f pl f1 (by rw[f2];exact⟨.bl _,H,I,rfl,q⟩)
def Hn(K:Frag):R2:=λx y H Q=>TX K true x y H Q\/∃ i j,x=.str i/\y=.str j/\Q (.bl (!(!(Builtin.Str.occurrences j i 0 j.length 1).isEmpty))) H
theorem yN(hr:fX k X.A):OpR X (compareOp .NotIn) (Hn X.K):=OpR.or (Js hr) zx
def La(K:Frag):R2:=λx y H Q=>rI0 (λi j=>.int (i+j)) x y H Q\/(∃ i j,x=.str i/\y=.str j/\i.length+j.length<=sizeLine/\Q (.str (i++j)) H)\/Qy K x y H Q
theorem bC:OpR X (binaryOp .Add) (La X.K):=OpR.or Rh (OpR.or Fi NT)
def QH:R2:=λx y H Q=>rI Fe (λi j=>.int (i*j)) x y H Q\/∃ z n,x=.str z/\y=.int n/\-(2^63)<=n/\n<2^63/\z.length*n.toNat<=sizeLine/\Q (.str ⟨(List.replicate n.toNat z.cps).foldl (·++·) #[]⟩) H
theorem dM:OpR X (binaryOp .Mult) QH:=by
 refine OpR.or Ri ?_;intro pins s σ H x y v u Q I rx ry h;obtain⟨z,n,rfl,rfl,h1,h2,h3,q⟩:=h;obtain⟨t,rfl⟩:=rx;obtain⟨t',rfl⟩:=ry;have fin:∀ t k,EP X pins σ Q (.str ⟨(List.replicate n.toNat z.cps).foldl (·++·) #[]⟩ t) { s with toks:=k }:=λt k=>⟨.str _,H,I.tok _,⟨t,rfl⟩,q⟩;have hr:(decide (n < -(2^63:Int))||decide (n>=2^63))=false:=by
  rw[Zay (by omega),Zay (by omega)];rfl
 refine PySem.P.mul_str hr (λh4 h5=>?_) (λh4 h5=>?_) ?_
 ·have hn:1<=n:=by omega
  have h6:z.length<=sizeLine:=by
   have:z.length*1<=z.length*n.toNat:=Nat.mul_le_mul_left _ (by omega)
   omega
  have h7:n≠1:=λe=>by subst e;simp at h5
  have h8:(z.length:Int)*n<=16777216:=by
   have e:(z.length:Int)*n=((z.length*n.toNat:Nat):Int):=by
    rw[Int.natCast_mul,ZaA (by omega)]
   rw[e];have:z.length*n.toNat<=16777216:=h3;omega
  have h9:(z.length:Int)<=(2^63-1)/n:=by
   apply(Int.le_ediv_iff_mul_le (by omega)).mpr
   omega
  omega
 ·unfold Builtin.Str.tooLong;exact Zay (by omega)
 ·by_cases h4:n<1
  ·rw[Zan h4];have e:n.toNat=0:=by omega
   rw[e] at fin;exact⟨Zbg _,fin _ _⟩
  ·rw[Zap h4];refine post_val_or_str ⟨?_,λt' k=>?_⟩
   ·have e1:∀ (m:Nat) (acc:Array Nat),((List.replicate m z.cps).foldl (·++·) acc).size=acc.size+m*z.cps.size:=λm=>by
     induction m with
     |zero=>intro acc;simp
     |succ m ih=>intro acc;rw[List.replicate_succ,List.foldl_cons,ih,Array.size_append,Nat.succ_mul];omega
    have h6:z.length<=sizeLine:=by
     have:z.length*1<=z.length*n.toNat:=Nat.mul_le_mul_left _ (by omega)
     omega
    split
    ·exact h6
    ·show((List.replicate n.toNat z.cps).foldl (·++·) #[]).size<=sizeLine
     rw[e1,Nat.mul_comm];show 0+z.length*n.toNat<=_
     omega
   ·have fz:=fin t' k;split
    ·rename_i h5;have e:(⟨(List.replicate n.toNat z.cps).foldl (·++·) #[]⟩:Str)=z:=by
      rcases Bool.or_eq_true _ _▸h5 with h|h
      ·have:n=1:=by simpa using h
       subst this;show(⟨#[]++z.cps⟩:Str)=z
       rw[Array.empty_append]
      ·have h1:z.length=0:=by simpa using h
       have h0:z.cps=#[]:=Array.eq_empty_of_size_eq_zero h1;have e2:∀ m:Nat,(List.replicate m (#[]:Array Nat)).foldl (·++·) #[]=#[]:=λm=>by
        induction m with
        |zero=>rfl
        |succ m ih=>rw[List.replicate_succ,List.foldl_cons];exact ih
       cases z with
       |mk c=>cases h0;rw[e2]
     rw[e] at fz;exact fz
    ·exact fz
def TY:R2:=λx y H Q=>rI0 (λi j=>.bl (decide (i<j))) x y H Q\/∃ i j,x=.str i/\y=.str j/\Q (.bl (decide (i.cps.toList<j.cps.toList))) H
theorem uJ:OpR X (compareOp .Lt) TY:=OpR.or Td Jc
def T3:R2:=λx y H Q=>rI0 (λi j=>.bl (decide (i<=j))) x y H Q\/∃ i j,x=.str i/\y=.str j/\Q (.bl (!(decide (j.cps.toList<i.cps.toList)))) H
theorem Fy:OpR X (compareOp .LtE) T3:=OpR.or Te Jk
end
theorem noS{α:Type}{r:α}{C:Prop}(e:(none:Option α)=some r):C:=by cases e
def opI(c:Int->Int->Bool)(f:Int->Int->PV):PV->PV->Option (Res PV)
 |.int i,.int j=>if c i j=true then some (.ok (f i j)) else none
 |_,_=>none
def cT:Int->Int->Bool:=λ_ _=>true
def Lb:Int->Int->Bool:=λi j=>decide ((-(2^64)<i/\i<2^64)\/(-(2^64)<j/\j<2^64))
def RM:Int->Int->Bool:=λ_ j=>decide (0<j/\j<1073741824)
def T4:Int->Int->Bool:=λ_ j=>decide (0<j)
def Ld:Int->Int->Bool:=λi j=>decide (0<=j/\j<=1000000/\i.natAbs<2^64)
def T8:Int->Int->Bool:=λ_ j=>decide (0<=j)
def qW:=opI cT λi j=>.int (i-j)
def vd:=opI RM λi j=>.int (i/j)
def cz:=opI T4 λi j=>.int (i%j)
def tQ:=opI Ld λi j=>.int (i^j.toNat)
def vf:=opI Ld λi j=>.int (i*2^j.toNat)
def Cu:=opI T8 λi j=>.int (i/2^j.toNat)
def wM:=opI cT λi j=>.int (Builtin.bitAnd i j)
def Oo:=opI cT λi j=>.int (Builtin.bitOr i j)
def Oq:=opI cT λi j=>.bl (decide (j<i))
def Jt:=opI cT λi j=>.bl (decide (j<=i))
def b7:PV->PV->Option (Res PV)
 |.int i,.int j=>some (.ok (.int (i+j)))
 |.str i,.str j=>if i.length+j.length<=sizeLine then some (.ok (.str (i++j))) else none
 |.tup l,.tup m=>if l≠[]/\l.length+m.length<=sizeLine then some (.ok (.tup (l++m))) else none
 |_,_=>none
def RN(z:Str)(n:Nat):Str:=⟨(List.replicate n z.cps).foldl (·++·) #[]⟩
def gh:PV->PV->Option (Res PV)
 |.int i,.int j=>if Lb i j=true then some (.ok (.int (i*j))) else none
 |.str z,.int n=>if -(2^63)<=n/\n<2^63/\z.length*n.toNat<=sizeLine then some (.ok (.str (RN z n.toNat))) else none
 |_,_=>none
def zP:PV->PV->Option (Res PV)
 |.int i,.int j=>some (.ok (.bl (decide (i<j))))
 |.str i,.str j=>some (.ok (.bl (decide (i.cps.toList<j.cps.toList))))
 |_,_=>none
def Ju:PV->PV->Option (Res PV)
 |.int i,.int j=>some (.ok (.bl (decide (i<=j))))
 |.str i,.str j=>some (.ok (.bl (!(decide (j.cps.toList<i.cps.toList)))))
 |_,_=>none
def gD(p q:PV):Option (Res PV):=match eqF 32 p q with
 |some r=>some (.ok (.bl r))
 |none=>none
def uK(p q:PV):Option (Res PV):=match eqF 32 p q with
 |some r=>some (.ok (.bl (!r)))
 |none=>none
def inU(p:PV):PV->Option Bool
 |.lst l=>inF p l
 |.tup l=>inF p l
 |.str j=>match p with
  |.str i=>some (!(Builtin.Str.occurrences j i 0 j.length 1).isEmpty)
  |_=>none
 |_=>none
def nC(p q:PV):Option (Res PV):=match inU p q with
 |some r=>some (.ok (.bl (!r)))
 |none=>none
def PV.yO:PV->Bool
 |.non=>true
 |_=>false
def Le(p q:PV):Option (Res PV):=match q with
 |.non=>some (.ok (.bl p.yO))
 |_=>none
def wN(p q:PV):Option (Res PV):=match q with
 |.non=>some (.ok (.bl (!p.yO)))
 |_=>none
def ofO(x:Option PV):Option (Res PV):=match x with
 |some p=>some (.ok p)
 |none=>none
def aZ:PV->PV->Option (Res PV)
 |.lst l,.int i=>ofO (atI l i)
 |.tup l,.int i=>ofO (atI l i)
 |.str z,.int i=>if z.length<=sizeLine then ofO ((atI z.cps.toList i).map λc=>.str ⟨#[c]⟩) else none
 |_,_=>none
def yP:List PV->PV->Option (Res PV)
 |l,.int i=>ofO (atI l i)
 |_,_=>none
section
variable{K:Frag}{C:Cg}{F H:Hp}
theorem T9{i j:Int}(h:RM i j=true):Rg i j:=of_decide_eq_true (p:=0<j/\j<1073741824) h
theorem QJ{i j:Int}(h:Ld i j=true):Kl i j:=of_decide_eq_true (p:=0<=j/\j<=1000000/\i.natAbs<2^64) h
theorem Ua{i j:Int}(h:Lb i j=true):Fe i j:=of_decide_eq_true (p:=(-(2^64)<i/\i<2^64)\/(-(2^64)<j/\j<2^64)) h
theorem yQ{c:Int->Int->Bool}{f:Int->Int->PV}{cond:Int->Int->Prop}{fv:Int->Int->V}(hc:∀ i j,c i j=true->cond i j)(hf:∀ i j F,Rep K F (fv i j) (f i j)):R2M C (aF K) (aF K) (aF K) (rI cond fv) (opI c f):=by
 intro F H x y a b res Q s ha hb e P;have inv:(∃ i j,a=.int i/\b=.int j):=by
  clear P ha hb
  cases a<;>first|exact noS e|(cases b<;>first|exact noS e|exact⟨_,_,rfl,rfl⟩)
 obtain⟨i,j,rfl,rfl⟩:=inv;cases Rep.bI ha;cases Rep.bI hb;have e:(if c i j=true then some (Res.ok (f i j)) else none)=some res:=e;split at e
 ·rename_i h;cases e;exact⟨i,j,rfl,rfl,hc i j h,P _ F H (Up.refl s) (hf i j F)⟩
 ·cases e
theorem wO{f:Int->Int->PV}{fv:Int->Int->V}(hf:∀ i j F,Rep K F (fv i j) (f i j)):R2M C (aF K) (aF K) (aF K) (rI0 fv) (opI cT f):=by
 intro F H x y a b res Q s ha hb e P;have inv:(∃ i j,a=.int i/\b=.int j):=by
  clear P ha hb
  cases a<;>first|exact noS e|(cases b<;>first|exact noS e|exact⟨_,_,rfl,rfl⟩)
 obtain⟨i,j,rfl,rfl⟩:=inv;cases Rep.bI ha;cases Rep.bI hb;cases e;exact⟨i,j,rfl,rfl,P _ F H (Up.refl s) (hf i j F)⟩
theorem wQ:R2M C (aF K) (aF K) (aF K) (rI0 λi j=>.int (i-j)) qW:=wO λ_ _ _=>.int
theorem Cv:R2M C (aF K) (aF K) (aF K) (rI Rg λi j=>.int (i/j)) vd:=yQ (λ_ _ h=>T9 h) λ_ _ _=>.int
theorem cD:R2M C (aF K) (aF K) (aF K) (rI (λ_ j=>0<j) λi j=>.int (i%j)) cz:=yQ (λ_ _ h=>of_decide_eq_true h) λ_ _ _=>.int
theorem yR:R2M C (aF K) (aF K) (aF K) (rI Kl λi j=>.int (i^j.toNat)) tQ:=yQ (λ_ _ h=>QJ h) λ_ _ _=>.int
theorem Cw:R2M C (aF K) (aF K) (aF K) (rI Kl λi j=>.int (i*2^j.toNat)) vf:=yQ (λ_ _ h=>QJ h) λ_ _ _=>.int
theorem QK:R2M C (aF K) (aF K) (aF K) (rI (λ_ j=>0<=j) λi j=>.int (i/2^j.toNat)) Cu:=yQ (λ_ _ h=>of_decide_eq_true h) λ_ _ _=>.int
theorem Ho:R2M C (aF K) (aF K) (aF K) (rI0 λi j=>.int (Builtin.bitAnd i j)) wM:=wO λ_ _ _=>.int
theorem Uz:R2M C (aF K) (aF K) (aF K) (rI0 λi j=>.int (Builtin.bitOr i j)) Oo:=wO λ_ _ _=>.int
theorem UG:R2M C (aF K) (aF K) (aF K) (rI0 λi j=>.bl (decide (j<i))) Oq:=wO λ_ _ _=>.bl
theorem RP:R2M C (aF K) (aF K) (aF K) (rI0 λi j=>.bl (decide (j<=i))) Jt:=wO λ_ _ _=>.bl
theorem cA:R2M C (aF K) (aF K) (aF K) (La K) b7:=by
 intro F H x y a b res Q s ha hb e P;have inv:(∃ i j,a=.int i/\b=.int j)\/(∃ i j,a=.str i/\b=.str j)\/(∃ l m,a=.tup l/\b=.tup m):=by
  clear P ha hb
  cases a<;>first|exact noS e|(cases b<;>first|exact noS e|exact .inl ⟨_,_,rfl,rfl⟩|exact .inr (.inl ⟨_,_,rfl,rfl⟩)|exact .inr (.inr ⟨_,_,rfl,rfl⟩))
 rcases inv with⟨i,j,rfl,rfl⟩|⟨i,j,rfl,rfl⟩|⟨l,m,rfl,rfl⟩
 ·cases Rep.bI ha;cases Rep.bI hb;cases e;exact .inl ⟨i,j,rfl,rfl,P _ F H (Up.refl s) .int⟩
 ·cases Rep.cu ha;cases Rep.cu hb;have e:(if i.length+j.length<=sizeLine then some (Res.ok (PV.str (i++j))) else none)=some res:=e;split at e
  ·rename_i h;cases e;exact .inr (.inl ⟨i,j,rfl,rfl,h,P _ F H (Up.refl s) .str⟩)
  ·cases e
 ·have e:(if l≠[]/\l.length+m.length<=sizeLine then some (Res.ok (PV.tup (l++m))) else none)=some res:=e;split at e
  ·rename_i h;cases e;obtain⟨a1,xs,rfl,h1,r1⟩:=Rep.dz ha;obtain⟨a2,ys,rfl,h2,r2⟩:=Rep.dz hb;have hx:xs≠[]:=λz=>h.1 (by have:=r1.1;rw[z] at this;simpa using this.symm)
   refine .inr (.inr ⟨a1,a2,xs,ys,rfl,rfl,s.tup h1,s.tup h2,hx,by rw[r1.1,r2.1];exact h.2,λz=>?_,λ_ p hp=>?_⟩)
   ·subst z;have hm:m=[]:=by have:=r2.1;simpa using this.symm
    subst hm;rw[ZaM] at P;exact P _ F H (Up.refl s) ha
   ·have un:=Up.new (o:=.tup (xs++ys)) s hp;exact P _ _ _ un (.tup aX (r1.append r2).1 ((r1.append r2).up un.ff).2)
  ·cases e
theorem iy:R2M C (aF K) (aF K) (aF K) QH gh:=by
 intro F H x y a b res Q s ha hb e P;have inv:(∃ i j,a=.int i/\b=.int j)\/(∃ z n,a=.str z/\b=.int n):=by
  clear P ha hb
  cases a<;>first|exact noS e|(cases b<;>first|exact noS e|exact .inl ⟨_,_,rfl,rfl⟩|exact .inr ⟨_,_,rfl,rfl⟩)
 rcases inv with⟨i,j,rfl,rfl⟩|⟨z,n,rfl,rfl⟩
 ·cases Rep.bI ha;cases Rep.bI hb;have e:(if Lb i j=true then some (Res.ok (PV.int (i*j))) else none)=some res:=e;split at e
  ·rename_i h;cases e;exact .inl ⟨i,j,rfl,rfl,Ua h,P _ F H (Up.refl s) .int⟩
  ·cases e
 ·cases Rep.cu ha;cases Rep.bI hb;have e:(if -(2^63)<=n/\n<2^63/\z.length*n.toNat<=sizeLine then some (Res.ok (PV.str (RN z n.toNat))) else none)=some res:=e;split at e
  ·rename_i h;cases e;exact .inr ⟨z,n,rfl,rfl,h.1,h.2.1,h.2.2,P _ F H (Up.refl s) .str⟩
  ·cases e
theorem Jv:R2M C (aF K) (aF K) (aF K) TY zP:=by
 intro F H x y a b res Q s ha hb e P;have inv:(∃ i j,a=.int i/\b=.int j)\/(∃ i j,a=.str i/\b=.str j):=by
  clear P ha hb
  cases a<;>first|exact noS e|(cases b<;>first|exact noS e|exact .inl ⟨_,_,rfl,rfl⟩|exact .inr ⟨_,_,rfl,rfl⟩)
 rcases inv with⟨i,j,rfl,rfl⟩|⟨i,j,rfl,rfl⟩
 ·cases Rep.bI ha;cases Rep.bI hb;cases e;exact .inl ⟨i,j,rfl,rfl,P _ F H (Up.refl s) .bl⟩
 ·cases Rep.cu ha;cases Rep.cu hb;cases e;exact .inr ⟨i,j,rfl,rfl,P _ F H (Up.refl s) .bl⟩
theorem RQ:R2M C (aF K) (aF K) (aF K) T3 Ju:=by
 intro F H x y a b res Q s ha hb e P;have inv:(∃ i j,a=.int i/\b=.int j)\/(∃ i j,a=.str i/\b=.str j):=by
  clear P ha hb
  cases a<;>first|exact noS e|(cases b<;>first|exact noS e|exact .inl ⟨_,_,rfl,rfl⟩|exact .inr ⟨_,_,rfl,rfl⟩)
 rcases inv with⟨i,j,rfl,rfl⟩|⟨i,j,rfl,rfl⟩
 ·cases Rep.bI ha;cases Rep.bI hb;cases e;exact .inl ⟨i,j,rfl,rfl,P _ F H (Up.refl s) .bl⟩
 ·cases Rep.cu ha;cases Rep.cu hb;cases e;exact .inr ⟨i,j,rfl,rfl,P _ F H (Up.refl s) .bl⟩
theorem jD:R2M C (aH K) (aH K) (aF K) (RL K) gD:=by
 intro F H x y a b res Q s ha hb e P;unfold gD at e;split at e
 ·rename_i r h;cases e;exact⟨a,b,r,ha,hb,h,P _ F H (Up.refl s) .bl⟩
 ·cases e
theorem Jw:R2M C (aH K) (aH K) (aF K) (TV K) uK:=by
 intro F H x y a b res Q s ha hb e P;unfold uK at e;split at e
 ·rename_i r h;cases e;exact⟨a,b,r,ha,hb,h,P _ F H (Up.refl s) .bl⟩
 ·cases e
theorem Hq:R2M C (aH K) (aH K) (aF K) (Hn K) nC:=by
 intro F H x y a b res Q s ha hb e P;unfold nC at e;split at e
 ·rename_i r h;cases e
  match b,h with
  |.lst l,h=>exact .inl ⟨a,l,r,ha,.inl hb,h,P _ F H (Up.refl s) .bl⟩
  |.tup l,h=>exact .inl ⟨a,l,r,ha,.inr hb,h,P _ F H (Up.refl s) .bl⟩
  |.str j,h=>
   match a,h with
   |.str i,h=>
    cases h;exact .inr ⟨i,j,Rep.cu ha,Rep.cu hb,P _ F H (Up.refl s) .bl⟩
 ·cases e
theorem Cy{v:V}{p:PV}(h:Rep K F v p):decide (v=.non)=p.yO:=by
 cases h<;>first|rfl|exact Zay (by intro z;cases z)
theorem Ub:R2M C (aH K) (aF K) (aF K) (λx y H Q=>y=.non/\Q (.bl (decide (x=.non))) H) Le:=by
 intro F H x y a b res Q s ha hb e P
 match b,e with
 |.non,e=>
  cases e;rw[Cy ha];exact⟨Rep.fD hb,P _ F H (Up.refl s) .bl⟩
theorem Fz:R2M C (aH K) (aF K) (aF K) (λx y H Q=>y=.non/\Q (.bl (!decide (x=.non))) H) wN:=by
 intro F H x y a b res Q s ha hb e P
 match b,e with
 |.non,e=>
  cases e;rw[Cy ha];exact⟨Rep.fD hb,P _ F H (Up.refl s) .bl⟩
theorem zQ{xs:List V}{l:List PV}{i:Int}{p:PV}(r:bW K F xs l)(h:atI l i=some p):∃ v,atI xs i=some v/\Rep K F v p:=by
 unfold atI at h ⊢;rw[r.1];cases e:ixN l.length i with
 |none=>rw[e] at h;cases h
 |some j=>
  rw[e] at h;exact r.get h
theorem tR{x:Option PV}{res:Res PV}(h:ofO x=some res):∃ p,x=some p/\res=.ok p:=by
 cases x with
 |none=>cases h
 |some p=>cases h;exact⟨p,rfl,rfl⟩
theorem bc:R2M C (aF K) (aF K) (aF K) (rIx K) aZ:=by
 intro F H x y a b res Q s ha hb e P;have inv:(∃ l i,a=.lst l/\b=.int i)\/(∃ l i,a=.tup l/\b=.int i)\/(∃ z i,a=.str z/\b=.int i):=by
  clear P ha hb
  cases a<;>first|exact noS e|(cases b<;>first|exact noS e|exact .inl ⟨_,_,rfl,rfl⟩|exact .inr (.inl ⟨_,_,rfl,rfl⟩)|exact .inr (.inr ⟨_,_,rfl,rfl⟩))
 rcases inv with⟨l,i,rfl,rfl⟩|⟨l,i,rfl,rfl⟩|⟨z,i,rfl,rfl⟩
 ·cases Rep.bI hb;obtain⟨p,e1,rfl⟩:=tR e;obtain⟨a1,xs,rfl,h1,r1⟩:=Rep.cN ha;obtain⟨v,e2,rv⟩:=zQ r1 e1;exact .inl ⟨a1,xs,i,v,rfl,rfl,s.seq h1,e2,P _ F H (Up.refl s) rv⟩
 ·cases Rep.bI hb;obtain⟨p,e1,rfl⟩:=tR e;obtain⟨a1,xs,rfl,h1,r1⟩:=Rep.dz ha;obtain⟨v,e2,rv⟩:=zQ r1 e1;exact .inr (.inl ⟨a1,xs,i,v,rfl,rfl,s.tup h1,e2,P _ F H (Up.refl s) rv⟩)
 ·cases Rep.bI hb;cases Rep.cu ha;have e:(if z.length<=sizeLine then ofO ((atI z.cps.toList i).map λc=>PV.str ⟨#[c]⟩) else none)=some res:=e;split at e
  ·rename_i hz;obtain⟨p,e1,rfl⟩:=tR e;cases e2:atI z.cps.toList i with
   |none=>rw[e2] at e1;cases e1
   |some c=>
    rw[e2] at e1;cases e1;exact .inr (.inr ⟨z,i,c,rfl,rfl,hz,e2,P _ F H (Up.refl s) .str⟩)
  ·cases e
theorem Hr:R2M C (aV K) (aF K) (aF K) (rIx K) yP:=by
 intro F H x y a b res Q s ha hb e P
 match b,e with
 |.int i,e=>
  cases Rep.bI hb;obtain⟨p,e1,rfl⟩:=tR e;obtain⟨a1,xs,rfl,h1,r1⟩:=ha;obtain⟨v,e2,rv⟩:=zQ r1 e1;exact .inl ⟨a1,xs,i,v,rfl,rfl,h1,e2,P _ F H (Up.refl s) rv⟩
variable{te:TE}
def MP'(K:Frag)(C:Cg)(t:TO)(f:Fn (Option Int)):Prop:=
 ∀ F H σ ρ Q r,RE K C.toCf F H σ ρ->f ρ=some r->Pr C F (λo=>∀ F' H',Up F H F' H'->Q o H') r->t σ H Q
def mPn:Fn (Option Int):=λ_=>some (.ok none)
def asInt:PV->Option (Res (Option Int))
 |.int i=>some (.ok (some i))
 |_=>none
theorem qw:MP' K C Hf mPn:=λF H σ ρ Q r R e P=>by
 cases e;exact P F H (Up.refl R.rb.sub)
theorem gQ{f:Fn PV}(h:MJ K C (aF K) te f):MP' K C (Qx te) (m1 asInt f):=by
 intro F H σ ρ Q r R e P;refine h.run R e P λp v F1 H1 hk u a=>?_
 match p,hk with
 |.int i,hk=>
  cases Rep.bI a;cases hk;exact⟨i,rfl,P F1 H1 u⟩
theorem MP'.run{β:Type}{t:TO}{f:Fn (Option Int)}{σ:St}{ρ:Rho}{Q:Option Int->Hp->Prop}{ok:β->Prop}{k:Option Int->Option (Res β)}{r:Res β}(h:MP' K C t f)(R:RE K C.toCf F H σ ρ)(hb:bnd (f ρ) k=some r)(P:Pr C F ok r)
  (go:∀ o F1 H1,k o=some r->Up F H F1 H1->Q o H1):t σ H Q:=by
 rcases cL hb with⟨z,e,rfl⟩|⟨p,e,hk⟩
 ·exact h F H σ ρ Q _ R e P
 ·exact h F H σ ρ Q _ R e λF1 H1 u=>go p F1 H1 hk u
def tU(l:List PV)(lo hi:Option Int):List PV:=(l.drop (HT.sIx l.length 0 lo)).take (HT.sIx l.length l.length hi-HT.sIx l.length 0 lo)
theorem bW.cut{xs:List V}{l:List PV}(h:bW K F xs l)(lo hi:Option Int):bW K F (zy xs lo hi) (tU l lo hi):=by
 unfold zy tU;rw[h.1];exact(h.drop _).take _
def Jx(f:Fn (List PV))(lo hi:Fn (Option Int)):Fn PV:=λρ=>bnd (f ρ) λl=>bnd (lo ρ) λa=>bnd (hi ρ) λb=>some (.ok (.lst (tU l a b)))
theorem FJ{f:Fn (List PV)}{lo hi:Fn (Option Int)}{tl th:TO}(h:MJ K C (aV K) te f)(hl:MP' K C tl lo)(hh:MP' K C th hi):MO K C (tSl (Tt K) te tl th) (Jx f lo hi):=by
 intro F H σ ρ Q r R e P;refine h.run R e P λl v F1 H1 hk u a=>?_;refine hl.run (R.up u) hk (P.uE u) λo F2 H2 hk2 u2=>?_;refine hh.run (R.up (u.trans u2)) hk2 (P.uE (u.trans u2)) λo2 F3 H3 hk3 u3=>?_;cases hk3;obtain⟨b,xs,rfl,h1,r1⟩:=a;have u23:=u2.trans u3;refine⟨b,xs,rfl,u23.hh.seq h1,λp hp=>?_⟩;exact P p F3 _ (u.trans (u23.trans (Up.Jp u3.fh hp))) ((u.hh.trans u23.hh).free hp) (u3.fh.free hp) ⟨_,aX,(r1.up u23.ff).cut _ _⟩
def Lf(a b:Option Int):PV->Option (Res PV)
 |.str z=>if z.length<=sizeLine then some (.ok (.str (Txt.slice z a b))) else none
 |_=>none
def Jy(f:Fn PV)(lo hi:Fn (Option Int)):Fn PV:=λρ=>bnd (f ρ) λz=>bnd (lo ρ) λa=>bnd (hi ρ) λb=>Lf a b z
theorem FN{f:Fn PV}{lo hi:Fn (Option Int)}{tl th:TO}(h:MJ K C (aF K) te f)(hl:MP' K C tl lo)(hh:MP' K C th hi):MJ K C (aF K) (tSl TF te tl th) (Jy f lo hi):=by
 intro F H σ ρ Q r R e P;refine h.run R e P λl v F1 H1 hk u a=>?_;refine hl.run (R.up u) hk (P.later u) λo F2 H2 hk2 u2=>?_;refine hh.run (R.up (u.trans u2)) hk2 (P.later (u.trans u2)) λo2 F3 H3 hk3 u3=>?_
 match l,hk3 with
 |.str z,hk3=>
  cases Rep.cu a;have hk3:(if z.length<=sizeLine then some (Res.ok (PV.str (Txt.slice z o o2))) else none)=some r:=hk3;split at hk3
  ·rename_i hz;cases hk3;exact⟨z,rfl,hz,P _ F3 H3 (u.trans (u2.trans u3)) .str⟩
  ·cases hk3
def Lg(a b:Option Int):PV->Option (Res PV)
 |.tup l=>if ¬(HT.sIx l.length 0 a=0/\HT.sIx l.length l.length b=l.length) then some (.ok (.tup (tU l a b))) else none
 |_=>none
def Ot(f:Fn PV)(lo hi:Fn (Option Int)):Fn PV:=λρ=>bnd (f ρ) λz=>bnd (lo ρ) λa=>bnd (hi ρ) λb=>Lg a b z
theorem RT{f:Fn PV}{lo hi:Fn (Option Int)}{tl th:TO}(h:MJ K C (aF K) te f)(hl:MP' K C tl lo)(hh:MP' K C th hi):MJ K C (aF K) (tSl (Tn K) te tl th) (Ot f lo hi):=by
 intro F H σ ρ Q r R e P;refine h.run R e P λl v F1 H1 hk u a=>?_;refine hl.run (R.up u) hk (P.later u) λo F2 H2 hk2 u2=>?_;refine hh.run (R.up (u.trans u2)) hk2 (P.later (u.trans u2)) λo2 F3 H3 hk3 u3=>?_
 match l,hk3 with
 |.tup l,hk3=>
  have hk3:(if ¬(HT.sIx l.length 0 o=0/\HT.sIx l.length l.length o2=l.length) then some (Res.ok (PV.tup (tU l o o2))) else none)=some r:=hk3;split at hk3
  ·rename_i hz;cases hk3;obtain⟨b,xs,rfl,h1,r1⟩:=Rep.dz a;have u23:=u2.trans u3;refine⟨b,xs,rfl,(u23.ff.trans u3.fh).tup h1,by rw[r1.1];exact hz,λp hp=>?_⟩
   have un:=Up.new (o:=.tup (zy xs o o2)) u3.fh hp;have rc:=(r1.up u23.ff).cut o o2;exact P _ _ _ (u.trans (u23.trans un)) (.tup aX rc.1 (rc.up un.ff).2)
  ·cases hk3
end
def Lh(K:Frag)(tl:TE):TI:=λσ H R=>tl σ H λx H1=>(∃ a,x=.ref a/\(∃ xs,SqL K H1 a xs)/\R (Itl K a) H1)\/(∃ a,x=.ref a/\(∃ xs,SqT K H1 a xs)/\R (Itt K a) H1)\/∃ z,x=.str z/\R (Itf (sgn z) z.cps.size) H1
theorem iJ{X:Cx}{tg l:Expr}{tl:TE}(hl:PE X l tl):PI X tg l (Lh X.K tl):=by
 intro pins s σ H R I h;refine thn (hl pins s σ H _ I h) ?_;rintro v s1 ⟨x,H1,I1,r1,q1⟩;have keep:∀ (o:Obj),Inv X pins σ H1 { s1 with heap:=s1.heap.push o }:=λo=>I1.kept (t':=s1.toks) λb ob e=>Zaf _ e;have fp:∀ b∈[s1.heap.objs.size],wg X pins H1 b:=λb hb=>by
  have e:b=s1.heap.objs.size:=by simpa using hb
  subst e;exact I1.IW (Zag _) (I1.hok.fresh (Zag _))
 rcases q1 with⟨a,rfl,⟨xs,hq⟩,q⟩|⟨a,rfl,⟨xs,hq⟩,q⟩|⟨z,rfl,q⟩
 ·cases r1;obtain⟨its,rv,p,hz⟩:=I1.list hq;exact wpAny_pyIter_list p.isList ⟨_,[_],_,_,H1,rfl,keep _,Ja a _,⟨_,Zau _ rfl,rfl,rfl⟩,fp,q⟩
 ·cases r1;obtain⟨its,rv,p,hz⟩:=I1.tuple hq;exact wpAny_pyIter_tuple (show s1.heap.IsTuple a its.toArray from p) ⟨_,[_],_,_,H1,rfl,keep _,Fb a _,⟨_,Zau _ rfl,rfl,rfl⟩,fp,q⟩
 ·obtain⟨t,rfl⟩:=r1;exact wpAny_pyIter_strU ⟨_,[_],_,_,H1,rfl,keep _,Ky _ z t,⟨_,Zau _ rfl,rfl,rfl⟩,fp,q⟩
section
variable{K:Frag}{C:Cg}{F H:Hp}{σ:St}{ρ:Rho}{te:TE}{tA:TA}{a:Addr}{xs:List V}{l:List PV}
def signs(z:Str):List PV:=z.cps.toList.map λc=>.str ⟨#[c]⟩
def mD:PV->Option (Res (List PV))
 |.lst l=>some (.ok l)
 |.tup l=>some (.ok l)
 |.str z=>some (.ok (signs z))
 |_=>none
theorem Li(h:SqL K F a xs)(r:bW K F xs l):ItR K (Itl K a) F l where
 stop:=λF' H' s s'=>⟨xs,(s.trans s').seq h,by rw[r.1];exact Zag _⟩
 go:=λi F' H' hi s s'=>⟨xs,xs[i]'(by rw[r.1];exact hi),(s.trans s').seq h,by simp⟩
 yld:=λi F' H' x H'' hi s s' y=>by
  obtain⟨rfl,y⟩:=y;have e:=y xs ((s.trans s').seq h);obtain⟨p,e2,rp⟩:=r.got e;exact⟨F',p,Up.refl s',e2,rp.up s⟩
theorem Ou(h:SqT K F a xs)(r:bW K F xs l):ItR K (Itt K a) F l where
 stop:=λF' H' s s'=>⟨xs,(s.trans s').tup h,by rw[r.1];exact Zag _⟩
 go:=λi F' H' hi s s'=>⟨xs,xs[i]'(by rw[r.1];exact hi),(s.trans s').tup h,by simp⟩
 yld:=λi F' H' x H'' hi s s' y=>by
  obtain⟨rfl,y⟩:=y;have e:=y xs ((s.trans s').tup h);obtain⟨p,e2,rp⟩:=r.got e;exact⟨F',p,Up.refl s',e2,rp.up s⟩
theorem Ov(z:Str):ItR K (Itf (sgn z) z.cps.size) F (signs z) where
 stop:=λF' H' s s'=>by simp[signs,Itf]
 go:=λi F' H' hi s s'=>by simpa[signs,Itf] using hi
 yld:=λi F' H' x H'' hi s s' y=>by
  obtain⟨rfl,rfl⟩:=y;have hi':i<z.cps.size:=by simpa[signs] using hi
  refine⟨F',.str ⟨#[z.cps.getD i 0]⟩,Up.refl s',?_,.str⟩;unfold signs;rw[Zac,Array.getElem?_toList,Zbb,Array.getElem?_eq_getElem hi'];rfl
theorem jE{f:Fn PV}(h:MJ K C (aF K) te f):MI K C (Lh K te) (m1 mD f):=by
 intro F H σ ρ R' r R e P;refine h.run R e P λp v F1 H1 hk u a=>?_
 match p,hk with
 |.lst l,hk=>
  cases hk;obtain⟨b,xs,rfl,h1,r1⟩:=Rep.cN a;exact .inl ⟨b,rfl,⟨xs,u.fh.seq h1⟩,P _ F1 H1 u (Li h1 r1)⟩
 |.tup l,hk=>
  cases hk;obtain⟨b,xs,rfl,h1,r1⟩:=Rep.dz a;exact .inr (.inl ⟨b,rfl,⟨xs,u.fh.tup h1⟩,P _ F1 H1 u (Ou h1 r1)⟩)
 |.str z,hk=>
  cases hk;cases Rep.cu a;exact .inr (.inr ⟨z,rfl,P _ F1 H1 u (Ov z)⟩)
def mF(lo:Int)(n:Nat):List PV:=(List.range n).map λ(i:Nat)=>.int (lo+(i:Int))
theorem b8(lo:Int)(n:Nat):(mF lo n).length=n:=by simp[mF]
theorem Hs(lo:Int)(n:Nat):ItR K (Itr lo n) F (mF lo n) where
 stop:=λF' H' s s'=>by rw[b8];exact Zag _
 go:=λi F' H' hi s s'=>by rw[b8] at hi;exact hi
 yld:=λi F' H' x H'' hi s s' y=>by
  obtain⟨rfl,rfl⟩:=y;rw[b8] at hi;refine⟨F',.int (lo+i),Up.refl s',?_,.int⟩;unfold mF;rw[Zac,ZaJ hi];rfl
def eO:List PV->Option (Res (List PV))
 |[.int j]=>if -(2^62)<=j/\j<2^62 then some (.ok (mF 0 j.toNat)) else none
 |_=>none
def wR:List PV->Option (Res (List PV))
 |[.int i,.int j]=>if -(2^62)<=i/\i<2^62/\-(2^62)<=j/\j<2^62 then some (.ok (mF i (j-i).toNat)) else none
 |_=>none
theorem dU{f:Fn (List PV)}(h:MA K C tA f):MI K C (Qu tA) (m1 eO f):=by
 intro F H σ ρ R' r R e P;refine h.run R e P λl xs F1 H1 hk u a=>?_;have inv:∃ j,l=[.int j]:=by
  clear P u a
  rcases l with _|⟨x,_|⟨y,l⟩⟩<;>first|exact noS hk|(cases x<;>first|exact noS hk|exact⟨_,rfl⟩)
 obtain⟨j,rfl⟩:=inv;have hk:(if -(2^62)<=j/\j<2^62 then some (Res.ok (mF 0 j.toNat)) else none)=some r:=hk;split at hk
 ·rename_i hj;cases hk;obtain⟨v,ys,rfl,r1,r2⟩:=a.fJ;cases r2.jA;cases Rep.bI r1;exact⟨j,rfl,hj.1,hj.2,P _ F1 H1 u (Hs 0 j.toNat)⟩
 ·cases hk
theorem zR{f:Fn (List PV)}(h:MA K C tA f):MI K C (Qv tA) (m1 wR f):=by
 intro F H σ ρ R' r R e P;refine h.run R e P λl xs F1 H1 hk u a=>?_;have inv:∃ i j,l=[.int i,.int j]:=by
  clear P u a
  rcases l with _|⟨x,_|⟨y,_|⟨z,l⟩⟩⟩<;>first|exact noS hk|(cases x<;>first|exact noS hk|(cases y<;>first|exact noS hk|exact⟨_,_,rfl⟩))
 obtain⟨i,j,rfl⟩:=inv;have hk:(if -(2^62)<=i/\i<2^62/\-(2^62)<=j/\j<2^62 then some (Res.ok (mF i (j-i).toNat)) else none)=some r:=hk;split at hk
 ·rename_i hj;cases hk;obtain⟨v,ys,rfl,r1,r2⟩:=a.fJ;obtain⟨w,zs,rfl,r3,r4⟩:=r2.fJ;cases r4.jA;cases Rep.bI r1;cases Rep.bI r3;exact⟨i,j,rfl,hj,P _ F1 H1 u (Hs i (j-i).toNat)⟩
 ·cases hk
def pH(l:List PV):List PV:=l.mapIdx λ(i:Nat) x=>.tup [.int i,x]
def pI:List PV->Option (Res (List PV))
 |[.lst l]=>some (.ok (pH l))
 |_=>none
theorem qx{f:Fn (List PV)}(h:MA K C tA f):MI K C (Qz K tA) (m1 pI f):=by
 intro F H σ ρ R' r R e P;refine h.run R e P λl xs F1 H1 hk u a=>?_;have inv:∃ m,l=[.lst m]:=by
  clear P u a
  rcases l with _|⟨x,_|⟨y,l⟩⟩<;>first|exact noS hk|(cases x<;>first|exact noS hk|exact⟨_,rfl⟩)
 obtain⟨l,rfl⟩:=inv;cases hk;obtain⟨v,ys,rfl,r1,r2⟩:=a.fJ;cases r2.jA;obtain⟨b,xs,rfl,h1,r1⟩:=Rep.cN r1;have hl:(pH l).length=l.length:=by simp[pH]
 refine⟨b,rfl,⟨xs,u.fh.seq h1⟩,P _ F1 H1 u ⟨λF' H' s s'=>?_,λi F' H' hi s s'=>?_,λi F' H' x H'' hi s s' y=>?_⟩⟩
 ·exact⟨xs,(s.trans s').seq h1,by rw[hl,r1.1];exact Zag _⟩
 ·rw[hl] at hi;exact⟨xs,xs[i]'(by rw[r1.1];exact hi),(s.trans s').seq h1,by simp⟩
 ·obtain⟨p,y,hp,rfl,rfl,hy⟩:=y;have e:=hy xs ((s.trans s').seq h1);obtain⟨q,e2,rq⟩:=r1.got e;have un:=Up.new (o:=.tup [.int i,y]) s' hp;refine⟨_,.tup [.int i,q],un,?_,.tup aX rfl λj x p hx hp'=>?_⟩
  ·unfold pH;rw[List.getElem?_mapIdx,e2];rfl
  ·match j with
   |0=>simp at hx hp';subst hx hp';exact .int
   |1=>simp at hx hp';subst hx hp';exact rq.up (s.trans un.ff)
   |j+2=>simp at hx
def NoO(ρ:Rho):Prop:=∀ (j:Nat) q,ρ[j]?≠some (some (.ow q))/\ρ[j]?≠some (some (.dp q))
def Wr(T:List Nat)(tg:PV->Rho->Option Rho):Prop:=∀ x ρ ρ',tg x ρ=some ρ'->ρ'.length=ρ.length/\(∀ j,j ∉ T->ρ'[j]?=ρ[j]?)/\(NoO ρ->NoO ρ')
def WrS(T:List Nat)(tg:List PV->Rho->Option Rho):Prop:=∀ x ρ ρ',tg x ρ=some ρ'->ρ'.length=ρ.length/\(∀ j,j ∉ T->ρ'[j]?=ρ[j]?)/\(NoO ρ->NoO ρ')
theorem fG(i:Nat):Wr [i] (gN i):=λx ρ ρ' e=>by
 cases e;refine⟨by simp,λj hj=>?_,λh j q=>⟨λe=>?_,λe=>?_⟩⟩
 ·rw[Zad (by simpa using Za0 (by simpa using hj))]
 ·rcases get_set e with⟨_,e2⟩|⟨_,e2⟩
  ·cases e2
  ·exact(h j q).1 e2
 ·rcases get_set e with⟨_,e2⟩|⟨_,e2⟩
  ·cases e2
  ·exact(h j q).2 e2
theorem Ow:WrS [] gsNil:=λx ρ ρ' e=>by
 cases x with
 |nil=>cases e;exact⟨rfl,λ_ _=>rfl,λh=>h⟩
 |cons p l=>cases e
theorem Cz{T U:List Nat}{t:PV->Rho->Option Rho}{u:List PV->Rho->Option Rho}(h:Wr T t)(hs:WrS U u):WrS (T++U) (gsCons t u):=λx ρ ρ' e=>by
 cases x with
 |nil=>cases e
 |cons p l=>
  have e:(match t p ρ with
   |some ρ'=>u l ρ'
   |none=>none)=some ρ':=e
  split at e
  ·rename_i ρ1 h1;obtain⟨a1,a2,a3⟩:=h p ρ ρ1 h1;obtain⟨b1,b2,b3⟩:=hs l ρ1 ρ' e;exact⟨b1.trans a1,λj hj=>(b2 j λz=>hj (ZaH _ z)).trans (a2 j λz=>hj (List.mem_append_left _ z)),λz=>b3 (a3 z)⟩
  ·cases e
theorem RV{n:Nat}{U:List Nat}{u:List PV->Rho->Option Rho}(hs:WrS U u):Wr U (gT n u):=λx ρ ρ' e=>by
 unfold gT at e;split at e
 ·split at e
  ·exact hs _ ρ ρ' e
  ·cases e
 ·cases e
def shOnly:Option Sl->Option Sl
 |some (.sh p)=>some (.sh p)
 |_=>none
def frR(fr:List (Option Nat))(ρ:Rho):Rho:=fr.map λo=>match o with
 |some i=>match ρ[i]? with
  |some v=>shOnly v
  |none=>none
 |none=>none
def d7(tg:PV->Rho->Option Rho)(tst:Fn Bool)(el:Fn PV)(ρb:Rho):List PV->Option (Res (List PV))
 |[]=>some (.ok [])
 |x::xs=>match tg x ρb with
  |none=>none
  |some ρ1=>bnd (tst ρ1) λb=>if b=true then bnd (el ρ1) λp=>bnd (d7 tg tst el ρb xs) λr=>some (.ok (p::r)) else d7 tg tst el ρb xs
def gG(it:Fn (List PV))(fr:List (Option Nat))(tg:PV->Rho->Option Rho)(tst:Fn Bool)(el:Fn PV):Fn PV:=λρ=>bnd (it ρ) λl=>
 if l.length<=sizeLine then bnd (d7 tg tst el (frR fr ρ) l) λr=>some (.ok (.lst r)) else none
def mG:Fn Bool:=λ_=>some (.ok true)
theorem jY:MT K C Tw mG:=λF H σ ρ Q r R e P=>by
 cases e;exact P F H (Up.refl R.rb.sub)
theorem RE.block(R:RE K C.toCf F H σ ρ)(fr:List (Option Nat)):RE K C.toCf F H (frσ fr σ) (frR fr ρ)/\NoO (frR fr ρ):=by
 have nd:∀ (j:Nat) q,(frR fr ρ)[j]?≠some (some (.dp q)):=λj q e=>by
  unfold frR at e;rw[Zac] at e;cases e1:fr[j]? with
  |none=>rw[e1] at e;cases e
  |some o=>
   rw[e1] at e;cases o with
   |none=>cases e
   |some i=>
    simp only[Zbl,Option.some.injEq] at e;split at e
    ·rename_i v hv;unfold shOnly at e;split at e<;>cases e
    ·cases e
 have no:∀ (j:Nat) q,(frR fr ρ)[j]?≠some (some (.ow q)):=λj q e=>by
  unfold frR at e;rw[Zac] at e;cases e1:fr[j]? with
  |none=>rw[e1] at e;cases e
  |some o=>
   rw[e1] at e;cases o with
   |none=>cases e
   |some i=>
    simp only[Zbl,Option.some.injEq] at e;split at e
    ·rename_i v hv;unfold shOnly at e;split at e<;>cases e
    ·cases e
 refine⟨⟨R.rb,by unfold frσ frR;simp,λj p e=>?_,λj p e=>absurd e (no j p),λi j p q a e=>absurd e (no i p),_,RD.no nd⟩,λj q=>⟨no j q,nd j q⟩⟩
 unfold frR at e;rw[Zac] at e;unfold frσ;rw[Zac];cases e1:fr[j]? with
 |none=>rw[e1] at e;cases e
 |some o=>
  rw[e1] at e;cases o with
  |none=>cases e
  |some i=>
   simp only[Zbl,Option.some.injEq] at e ⊢;split at e
   ·rename_i v hv;unfold shOnly at e;split at e
    ·cases e;obtain⟨w,e2,e3⟩:=R.sh i _ hv;exact⟨w,by rw[e2],e3⟩
    ·cases e
   ·cases e
theorem RE.other(R:RE K C.toCf F H σ ρ){D:Addr}{o:HO}(hf:F D=none)(h0:C.H0 D=none)(no:NoO ρ):RE K C.toCf F (upd H D o) σ ρ where
 rb:=⟨λb u q=>by rw[aU (bY q hf)];exact R.rb.sub b u q,λb u q n=>by rw[aU (bY q h0)];exact R.rb.keep b u q n,R.rb.new,λb hb=>⟨by
  have:=(R.rb.ios b hb);by_cases hbD:b=D
  ·subst hbD;exact absurd h0 this.2
  ·rw[aU hbD];exact this.1,(R.rb.ios b hb).2⟩⟩
 len:=R.len
 sh:=R.sh
 ow:=λi p e=>absurd e (no i p).1
 dis:=λi j p q a e=>absurd e (no i p).1
 dd:=⟨_,RD.no λi p=>(no i p).2⟩
theorem RE.weak{ρ':Rho}(R:RE K C.toCf F H σ ρ')(hl:ρ.length=ρ'.length)(h:∀ (j:Nat) s,ρ[j]?=some (some s)->ρ'[j]?=some (some s)):RE K C.toCf F H σ ρ where
 rb:=R.rb
 len:=by rw[R.len,hl]
 sh:=λi p e=>R.sh i p (h i _ e)
 ow:=λi p e=>R.ow i p (h i _ e)
 dis:=λi j p q a e e'=>R.dis i j p q a (h i _ e) (h j _ e')
 dd:=let⟨P,d⟩:=R.dd;⟨P,d.own,d.dis,λi j q b z e=>d.ow i j q b z (h j _ e),λi p e=>d.dp i p (h i _ e)⟩
structure ItH(K:Frag)(J:It)(F H:Hp)(l:List PV):Prop where
 stop:∀ F' H',bf F F'->bf F' H'->bf H H'->J.stop l.length H'
 go:∀ i F' H',i<l.length->bf F F'->bf F' H'->bf H H'->J.go i H'
 yld:∀ i F' H' x H'',i<l.length->bf F F'->bf F' H'->bf H H'->J.yld i H' x H''->∃ F'' p,Up F' H' F'' H''/\l[i]?=some p/\Rep K F'' x p
def MIH(K:Frag)(C:Cg)(wi:TI)(f:Fn (List PV)):Prop:=
 ∀ F H σ ρ R' r,RE K C.toCf F H σ ρ->f ρ=some r->Pr C F (λl=>∀ J F' H',Up F H F' H'->ItH K J F' H' l->R' J H') r->wi σ H R'
theorem MI.h{wi:TI}{f:Fn (List PV)}(h:MI K C wi f):MIH K C wi f:=λF H σ ρ R' r R e P=>
 h F H σ ρ R' r R e (Pr.mono P (bf.refl _) λl q J F' H' u x=>q J F' H' u ⟨λa b c d _=>x.stop a b c d,λi a b hi c d _=>x.go i a b hi c d,λi a b y z hi c d _=>x.yld i a b y z hi c d⟩)
theorem Lj(h:SqL K H a xs)(r:bW K F xs l):ItH K (Itl K a) F H l where
 stop:=λF' H' s s' t=>⟨xs,t.seq h,by rw[r.1];exact Zag _⟩
 go:=λi F' H' hi s s' t=>⟨xs,xs[i]'(by rw[r.1];exact hi),t.seq h,by simp⟩
 yld:=λi F' H' x H'' hi s s' t y=>by
  obtain⟨rfl,y⟩:=y;have e:=y xs (t.seq h);obtain⟨p,e2,rp⟩:=r.got e;exact⟨F',p,Up.refl s',e2,rp.up s⟩
theorem Lk{f:Fn (List PV)}(h:MJ K C (aV K) te f):MIH K C (Lh K te) f:=by
 intro F H σ ρ R' r R e P;refine h F H σ ρ _ r R e (Pr.mono P (bf.refl _) λl q v F1 H1 u x=>?_);obtain⟨b,xs,rfl,hs,hr⟩:=x;exact .inl ⟨b,rfl,⟨xs,hs⟩,q _ F1 H1 u (Lj hs hr)⟩
theorem jO{α β γ:Type}{x:Option (Res α)}{f:α->Option (Res β)}{g:β->Option (Res γ)}:bnd (bnd x f) g=bnd x λa=>bnd (f a) g:=by
 match x with
 |some (.ok a)=>rfl
 |some (.ex z)=>rfl
 |none=>rfl
theorem CG{wi:TI}{it:Fn (List PV)}{fr:List (Option Nat)}{gt:TG}{tg:PV->Rho->Option Rho}{T:List Nat}{tc:TT}{tst:Fn Bool}{el:Fn PV}(hi:MIH K C wi it)(hg:MG K C gt tg)(hT:Wr T tg)(ht:MT K C tc tst)(he:MJ K C (aF K) te el)
  (hfr:T.all (λj=>fr[j]?==some none)=true:=by rfl):MO K C (u5 wi fr gt tc te) (gG it fr tg tst el):=by
 intro F H σ ρ Q r R e P;rcases cL e with⟨z,e1,rfl⟩|⟨l,e1,hk⟩
 ·exact hi F H σ ρ _ _ R e1 P
 split at hk
 case isFalse=>cases hk
 rename_i hlen;refine hi F H σ ρ _ _ R e1 λJ F1 H1 u hJ D hD=>?_;have R1:=R.up u;obtain⟨Rb,no⟩:=R1.block fr;have hD0:C.H0 D=none:=R1.rb.u6 hD;have hFD:F1 D=none:=u.fh.free hD;have hρ:∀ (j:Nat),j∈T->(frR fr ρ)[j]?=some none:=λj hj=>by
  have:=ZaZ.mp hfr j hj;unfold frR;rw[Zac,show fr[j]?=some none by simpa using this]
  rfl
 refine⟨λi m σ' H'=>∃ F' ys acc,m=l.length-i/\i<=l.length/\bf F1 F'/\(∀ b o,F' b=some o->F1 b=some o\/Frz H1 b o)/\bf H1 H'/\H' D=some (.lst ys)/\F' D=none/\bW K F' ys acc/\acc.length<=i /\
   RE K C.toCf F' H' σ' (frR fr ρ)/\bnd (d7 tg tst el (frR fr ρ) (l.drop i)) (λr=>some (.ok (.lst (acc++r))))=some r,
  ⟨l.length,F1,[],[],by simp,Zbg _,bf.refl _,λ_ _ q=>.inl q,d9 hD,aX,hFD,.nil,Zag _,Rb.other hFD hD0 no,by rw[Za8];exact hk⟩,?_⟩
 rintro i m σ' H' ⟨F',ys,acc,rfl,hil,s1,fr1,sH,eD,nD,ra,hacc,R',e'⟩;by_cases hlt:i<l.length
 case neg=>
  have ei:i=l.length:=by omega
  subst ei;rw[List.drop_length] at e';have e':some (Res.ok (PV.lst (acc++[])))=some r:=e';rw[ZaM] at e';cases e';exact .inl ⟨hJ.stop F' H' s1 R'.rb.sub sH,P D F' H' (u.trans ⟨s1,sH,fr1,R'.rb.sub⟩) (u.hh.free hD) nD ⟨ys,eD,ra⟩⟩
 refine .inr ⟨hJ.go i F' H' hlt s1 R'.rb.sub sH,λσ2 H2=>∃ F2 ys acc,bf F1 F2/\(∀ b o,F2 b=some o->F1 b=some o\/Frz H1 b o)/\bf H1 H2/\H2 D=some (.lst ys)/\F2 D=none/\bW K F2 ys acc/\acc.length<=i+1 /\
   RE K C.toCf F2 H2 σ2 (frR fr ρ)/\bnd (d7 tg tst el (frR fr ρ) (l.drop (i+1))) (λr=>some (.ok (.lst (acc++r))))=some r,
  λσ2 H2 ⟨F2,ys,acc,z⟩=>⟨l.length-(i+1),by omega,F2,ys,acc,rfl,hlt,z⟩,λx H'' y=>?_⟩
 obtain⟨F'',p,u2,ep,rx⟩:=hJ.yld i F' H' x H'' hlt s1 R'.rb.sub sH y;have ed:l.drop i=p::l.drop (i+1):=by
  rw[Za1 hlt];rw[Zab hlt] at ep;rw[Zaa ep]
 rw[ed,d7] at e';split at e'
 ·cases e'
 rename_i ρ1 h1;obtain⟨w1,w2,w3⟩:=hT p _ ρ1 h1;have no1:=w3 no;have weak:∀ (j:Nat) s,(frR fr ρ)[j]?=some (some s)->ρ1[j]?=some (some s):=λj s ej=>by
  rw[w2 j λz=>by rw[hρ j z] at ej;cases ej];exact ej
 refine hg F'' H'' σ' (frR fr ρ) x p ρ1 _ (R'.up u2) rx h1 λσ1 R1'=>?_;have stay:∀ {F3 H3:Hp},Up F' H' F3 H3->bf F1 F3/\(∀ b o,F3 b=some o->F1 b=some o\/Frz H1 b o)/\bf H1 H3/\H3 D=some (.lst ys)/\F3 D=none/\bW K F3 ys acc:=λ{F3 H3} u3=>by
  refine⟨s1.trans u3.ff,λb o q=>?_,sH.trans u3.hh,u3.hh _ _ eD,?_,ra.up u3.ff⟩
  ·rcases u3.fr b o q with z|z
   ·exact fr1 b o z
   ·exact .inr (z.imp (λz=>sH.free z) id)
  ·cases q:F3 D with
   |none=>rfl
   |some o=>
    rcases u3.fr D o q with z|z|⟨ys,z⟩
    ·rw[nD] at z;cases z
    ·rw[eD] at z;cases z
    ·subst z;have w:=u3.fh _ _ q;rw[u3.hh _ _ eD] at w;cases w
 have Pl:∀ {F3 H3:Hp},Up F' H' F3 H3->∀ {z:PV},r=.ex z->PX C F3 z:=λ{F3 H3} u3 {z} ez=>by
  subst ez;exact PX.up P (u.ff.trans (s1.trans u3.ff))
 rw[jO] at e';rcases cL e' with⟨z',e4,ez⟩|⟨b,e4,e5⟩
 ·exact ht F'' H'' σ1 ρ1 _ _ R1' e4 (Pl u2 ez)
 refine ht F'' H'' σ1 ρ1 _ _ R1' e4 λF3 H3 u3=>?_;have u23:=u2.trans u3;cases b with
 |false=>
  rw[Zap (by decide)] at e5 ⊢
  obtain⟨a1,a2,a3,a4,a5,a6⟩:=stay u23;exact⟨F3,ys,acc,a1,a2,a3,a4,a5,a6,by omega,(R1'.up u3).weak w1.symm weak,e5⟩
 |true=>
  rw[Zan rfl] at e5 ⊢;rw[jO] at e5;rcases cL e5 with⟨z',e6,ez⟩|⟨q,e6,e7⟩
  ·exact he F3 H3 σ1 ρ1 _ _ (R1'.up u3) e6 (Pl u23 ez)
  refine he F3 H3 σ1 ρ1 _ _ (R1'.up u3) e6 λv F4 H4 u4 rv=>?_;have u24:=u23.trans u4;obtain⟨a1,a2,a3,a4,a5,a6⟩:=stay u24;refine⟨ys,a4,by rw[a6.1];omega,F4,ys++[v],acc++[q],a1,a2,qu hD a3,aX,a5,a6.snoc rv,by simp;omega,((R1'.up (u3.trans u4)).other a5 hD0 no1).weak w1.symm weak,?_⟩
  rw[jO] at e7;rw[<-e7];congr 1
  funext rr
  show some (Res.ok (PV.lst (acc++[q]++rr)))=some (Res.ok (PV.lst (acc++q::rr)))
  rw[List.append_assoc];rfl
theorem jF{wi:TI}{it:Fn (List PV)}{fr:List (Option Nat)}{gt:TG}{tg:PV->Rho->Option Rho}{T:List Nat}{tc:TT}{tst:Fn Bool}{el:Fn PV}(hi:MI K C wi it)(hg:MG K C gt tg)(hT:Wr T tg)(ht:MT K C tc tst)(he:MJ K C (aF K) te el)
  (hfr:T.all (λj=>fr[j]?==some none)=true:=by rfl):MO K C (u5 wi fr gt tc te) (gG it fr tg tst el):=CG hi.h hg hT ht he hfr
end
def tyN:PV->Option String
 |.non=>some "NoneType"
 |.bl _=>some "bool"
 |.int _=>some "int"
 |.str _=>some "str"
 |.tup _=>some "tuple"
 |.lst _=>some "list"
 |.dk _=>some "dict"
 |.dt _=>some "dict"
 |_=>none
def RW(t T:String):Option Bool:=
 if t=T then some true else
 if T="int" then some (t=="bool") else
 if T="bool"\/T="str"\/T="tuple"\/T="list"\/T="dict" then some false else none
theorem Ox{K:Frag}{p:PV}{t T:String}{b:Bool}(h:tyN p=some t)(e:RW t T=some b):PySem.W.kitOne K (.type t) (.type T)=some b:=by
 have ht:t="NoneType"\/t="bool"\/t="int"\/t="str"\/t="tuple"\/t="list"\/t="dict":=by
  cases p<;>simp[tyN] at h<;>subst h<;>simp
 unfold RW at e;split at e
 ·rename_i e1;subst e1;cases e;exact KC
 ·split at e
  ·rename_i n1 e1;subst e1;cases e;rcases ht with rfl|rfl|rfl|rfl|rfl|rfl|rfl<;>first|exact absurd rfl n1|kernel_rfl
  ·split at e
   ·rename_i n1 n2 e1;cases e;rcases e1 with rfl|rfl|rfl|rfl|rfl<;>rcases ht with rfl|rfl|rfl|rfl|rfl|rfl|rfl<;>first|exact absurd rfl n1|kernel_rfl
   ·cases e
def isI(p:PV)(T:String):Option Bool:=match tyN p with
 |some t=>RW t T
 |none=>none
section
variable{X:Cx}
def Uc(K:Frag):List V->Hp->VK->Prop:=λxs H Q=>∃ x p T b,xs=[x,.ty T]/\Rep K H x p/\isI p T=some b/\Q (.bl b) H
theorem jZ:qQ X (.builtin "isinstance") (Uc X.K):=by
 intro pins s σ H xs us Q I rv h;obtain⟨x,p,T,b,rfl,rp,e,q⟩:=h;obtain⟨u,v,rfl,ru,rw'⟩:=rv.two;cases rw';have fin:∀ tk,EP X pins σ Q (.bool b) { s with toks:=tk }:=λtk=>⟨.bl b,H,I.tok _,rfl,q⟩;unfold isI at e;split at e
 case h_2=>cases e
 rename_i t ht;have ek:=Ox (K:=X.K) ht e;cases rp with
 |non=>cases ru;cases ht;exact Zbc PySem.W.kitx_none I.kIn True.intro ek (λz=>nomatch z) fin
 |bl=>cases ru;cases ht;exact Zbc PySem.W.kitx_bool I.kIn True.intro ek (λz=>nomatch z) fin
 |int=>obtain⟨t,rfl⟩:=ru;cases ht;exact Zbc PySem.W.kitx_int I.kIn True.intro ek (λz=>nomatch z) fin
 |str=>obtain⟨t,rfl⟩:=ru;cases ht;exact Zbc PySem.W.kitx_str I.kIn True.intro ek (λz=>nomatch z) fin
 |ty=>cases ht
 |tup h=>
  cases ru;cases ht;obtain⟨_,_,⟨o,h1,h2,_⟩,_⟩:=I.tuple (SqT.of h);exact Zbc PySem.W.kitx_tuple I.kIn ⟨o,h1,h2⟩ ek (λz=>nomatch z) fin
 |lst h=>
  cases ru;cases ht;obtain⟨_,_,⟨o,n,h1,h2,_⟩,_⟩:=I.list h;exact Zbc PySem.W.kitx_list I.kIn ⟨o,h1,h2⟩ ek (λz=>nomatch z) fin
 |dk h=>
  cases ru;cases ht;obtain⟨_,_,vs,_,o,es,ep,h1,h2,_⟩:=h.ok I.hok;exact Zbc PySem.W.kitx_dict I.kIn ⟨o,h1,h2.1⟩ ek (λz=>nomatch z) fin
 |dt h=>
  cases ru;cases ht;obtain⟨_,_,vs,_,o,es,ep,h1,h2,_⟩:=h.ok I.hok;exact Zbc PySem.W.kitx_dict I.kIn ⟨o,h1,h2.1⟩ ek (λz=>nomatch z) fin
 |exc=>cases ht
 |exc0=>cases ht
end
section
variable{K:Frag}{C:Cg}{α β γ:Type}{A:Rel α}{B:Rel β}{D:Rel γ}{ta tb:TE}{f:Fn α}{g:Fn β}{rr:List V->Hp->VK->Prop}
def R1M(C:Cg)(A:Rel α)(D:Rel γ)(rr:List V->Hp->VK->Prop)(op:α->Option (Res γ)):Prop:=
 ∀ F H x a res Q,bf F H->A F H x a->op a=some res->Pr C F (λc=>∀ v F' H',Up F H F' H'->D F' H' v c->Q v H') res->rr [x] H Q
theorem dN{op:α->Option (Res γ)}(rule:R1M C A D rr op)(ha:MJ K C A ta f):MJ K C D (tCB rr (qR ta By)) (m1 op f):=by
 intro F H σ ρ Q r R e P;refine ha.run R e P λp v F1 H1 hk u a=>?_;exact rule F1 H1 v p r Q u.fh a hk (P.later u)
def R1O(K:Frag)(C:Cg)(A:Rel α)(rr:List V->Hp->VK->Prop)(op:α->Option (Res PV)):Prop:=
 ∀ F H x a res Q,bf F H->A F H x a->op a=some res->Pr C F (λp=>∀ a F' H',Up F H F' H'->H a=none->F' a=none->Own K F' H' a p->Q (.ref a) H') res->rr [x] H Q
theorem uL{op:α->Option (Res PV)}(rule:R1O K C A rr op)(ha:MJ K C A ta f):MO K C (tCB rr (qR ta By)) (m1 op f):=by
 intro F H σ ρ Q r R e P;refine ha.run R e P λp v F1 H1 hk u a=>?_;exact rule F1 H1 v p r Q u.fh a hk (P.uE u)
def R2B(C:Cg)(A:Rel α)(B:Rel β)(D:Rel γ)(rr:List V->Hp->VK->Prop)(op:α->β->Option (Res γ)):Prop:=
 ∀ F H x y a b res Q,bf F H->A F H x a->B F H y b->op a b=some res->Pr C F (λc=>∀ v F' H',Up F H F' H'->D F' H' v c->Q v H') res->rr [x,y] H Q
theorem rW{op:α->β->Option (Res γ)}(up:UpM A)(rule:R2B C A B D rr op)(ha:MJ K C A ta f)(hb:MJ K C B tb g):MJ K C D (tCB rr (qR ta (qR tb By))) (m2 op f g):=by
 intro F H σ ρ Q r R e P;refine ha.run R e P λp v F1 H1 hk u a=>?_;refine hb.run (R.up u) hk (P.later u) λq w F2 H2 hk2 u2 b=>?_;exact rule F2 H2 v w p q r Q u2.fh (up _ _ _ _ _ _ u2 a) b hk2 (P.later (u.trans u2))
def gj:PV->Option (Res PV)
 |.str z=>if z.length<=sizeLine then some (.ok (.int z.length)) else none
 |.lst l=>some (.ok (.int l.length))
 |.tup l=>some (.ok (.int l.length))
 |_=>none
theorem jd:R1M C (aH K) (aF K) (λxs H Q=>∃ x n,xs=[x]/\Tg K x H n/\Q (.int n) H) gj:=by
 intro F H x a res Q s ha e P
 match a,e with
 |.str z,e=>
  cases Rep.cu ha;have e:(if z.length<=sizeLine then some (Res.ok (PV.int z.length)) else none)=some res:=e;split at e
  ·rename_i hz;cases e;exact⟨_,_,rfl,⟨hz,rfl⟩,P _ F H (Up.refl s) .int⟩
  ·cases e
 |.lst l,e=>
  cases e;obtain⟨b,xs,rfl,h1,r1⟩:=Rep.cN ha;rw[<-r1.1] at P;exact⟨_,_,rfl,.inl ⟨xs,h1,rfl⟩,P _ F H (Up.refl s) .int⟩
 |.tup l,e=>
  cases e;obtain⟨b,xs,rfl,h1,r1⟩:=Rep.dz ha;rw[<-r1.1] at P;exact⟨_,_,rfl,.inr ⟨xs,h1,rfl⟩,P _ F H (Up.refl s) .int⟩
def wU(p q:PV):Option (Res PV):=match q with
 |.ty T=>match isI p T with
  |some b=>some (.ok (.bl b))
  |none=>none
 |_=>none
theorem FP:R2B C (aH K) (aF K) (aF K) (Uc K) wU:=by
 intro F H x y a b res Q s ha hb e P
 match b,e with
 |.ty T,e=>
  cases Rep.Rz hb;have e:(match isI a T with
   |some b=>some (Res.ok (PV.bl b))
   |none=>none)=some res:=e
  split at e
  ·rename_i k hk;cases e;exact⟨x,a,T,k,rfl,ha,hk,P _ F H (Up.refl s) .bl⟩
  ·cases e
def qy:List PV->Option (List Bool)
 |[]=>some []
 |.bl b::r=>(qy r).map (b::·)
 |_=>none
theorem wV{F:Hp}:∀ {l:List PV}{bs:List Bool}{xs:List V},qy l=some bs->bW K F xs l->xs=bs.map V.bl
 |[],bs,xs,e,r=>by cases e;exact r.jA
 |.bl b::l,bs,xs,e,r=>by
  rw[qy] at e;cases h:qy l with
  |none=>rw[h] at e;cases e
  |some cs=>
   rw[h] at e;cases e;obtain⟨v,ys,rfl,r1,r2⟩:=r.fJ;rw[Rep.fY r1,wV h r2];rfl
def yS(l:List PV):Option (Res PV):=match qy l with
 |some bs=>some (.ok (.bl (bs.all id)))
 |none=>none
theorem Ud:R1M C (aV K) (aF K) (λxs H Q=>∃ (p:Addr) (bs:List Bool),xs=[.ref p]/\SqL K H p (bs.map V.bl)/\Q (.bl (bs.all id)) H) yS:=by
 intro F H x a res Q s ha e P;unfold yS at e;split at e
 ·rename_i bs hb;cases e;obtain⟨b,xs,rfl,h1,r1⟩:=ha;rw[wV hb r1] at h1;exact⟨b,bs,rfl,h1,P _ F H (Up.refl s) .bl⟩
 ·cases e
def pJ(l:List PV):Option (Res PV):=some (.ok (.lst l))
theorem zT:R1O K C (aV K) (λxs H Q=>∃ p ys,xs=[.ref p]/\(SqL K H p ys\/SqT K H p ys)/\∀ l,H l=none->Q (.ref l) (upd H l (.lst ys))) pJ:=by
 intro F H x a res Q s ha e P;cases e;obtain⟨b,xs,rfl,h1,r1⟩:=ha;exact⟨b,xs,rfl,.inl h1,λl hl=>P l F _ (Up.Jp s hl) hl (s.free hl) ⟨_,aX,r1⟩⟩
def yU(l:List PV):Option (Res PV):=some (.ok (.tup l))
theorem Ht:R1M C (aV K) (aF K) (λxs H Q=>∃ p ys,xs=[.ref p]/\((SqL K H p ys/\∀ l,H l=none->Q (.ref l) (upd H l (.tup ys)))\/(SqT K H p ys/\Q (.ref p) H))) yU:=by
 intro F H x a res Q s ha e P;cases e;obtain⟨b,xs,rfl,h1,r1⟩:=ha;refine⟨b,xs,rfl,.inl ⟨h1,λl hl=>?_⟩⟩;have un:=Up.new (o:=.tup xs) s hl;exact P _ _ _ un (.tup aX r1.1 (r1.up un.ff).2)
def nF:List PV->Option (List Str)
 |[]=>some []
 |.str b::r=>(nF r).map (b::·)
 |_=>none
theorem yV{F:Hp}:∀ {l:List PV}{bs:List Str}{xs:List V},nF l=some bs->bW K F xs l->xs=bs.map V.str
 |[],bs,xs,e,r=>by cases e;exact r.jA
 |.str b::l,bs,xs,e,r=>by
  rw[nF] at e;cases h:nF l with
  |none=>rw[h] at e;cases e
  |some cs=>
   rw[h] at e;cases e;obtain⟨v,ys,rfl,r1,r2⟩:=r.fJ;rw[Rep.cu r1,yV h r2];rfl
def wW(z:Str)(l:List PV):Option (Res PV):=match nF l with
 |some ys=>if(ys.map (·.length)).sum+ys.length*z.length<=16777216 then some (.ok (.str (Txt.join z ys))) else none
 |none=>none
def Hu(f:Fn PV)(g:Fn (List PV)):Fn PV:=λρ=>bnd (f ρ) λa=>match a with
 |.str z=>bnd (g ρ) λl=>wW z l
 |_=>none
theorem Oz{f:Fn PV}{g:Fn (List PV)}(ha:MJ K C (aF K) ta f)(hb:MJ K C (aV K) tb g) :
  MJ K C (aF K) (tBM K "str" (λx xs H Q=>∃ (z:Str) (p:Addr) (ys:List Str),x=.str z/\xs=[.ref p]/\SqL K H p (ys.map V.str)/\(ys.map (·.length)).sum+ys.length*z.length<=16777216/\Q (.str (Txt.join z ys)) H) ta (qR tb By)) (Hu f g):=by
 intro F H σ ρ Q r R e P;refine ha.run R e P λp v F1 H1 hk u a=>?_
 match p,hk with
 |.str z,hk=>
  cases Rep.cu a;refine⟨tyS,hb.run (R.up u) hk (P.later u) λq w F2 H2 hk2 u2 b=>?_⟩;unfold wW at hk2;split at hk2
  ·rename_i ys hys;split at hk2
   ·rename_i hz;cases hk2;obtain⟨b1,xs,rfl,h1,r1⟩:=b;rw[yV hys r1] at h1;exact⟨z,b1,ys,rfl,rfl,h1,hz,P _ F2 H2 (u.trans u2) .str⟩
   ·cases hk2
  ·cases hk2
def pK(f:Fn PV):Fn (List PV):=λρ=>bnd (f ρ) u9
def iB(i:Nat):Fn (List PV):=λρ=>bnd (mVL i ρ) u9
def RX(i:Nat)(f:Sn):Sn:=λρ=>f (Cm i ρ)
def CJ:PV->Option (Res PV)
 |.int i=>some (.ok (.int (-i)))
 |_=>none
theorem FQ{f:Fn PV}(ha:MJ K C (aF K) ta f):MJ K C (aF K) (tUn (rU λi=>.int (-i)) ta) (m1 CJ f):=by
 intro F H σ ρ Q r R e P;refine ha.run R e P λp v F1 H1 hk u a=>?_
 match p,hk with
 |.int i,hk=>
  cases Rep.bI a;cases hk;exact⟨i,rfl,P _ F1 H1 u .int⟩
end
noncomputable abbrev XR0:Hp->Value->Option Addr->PV->Prop:=λ_ _ _ _=>False
noncomputable abbrev C0(io:Addr->Prop)(H0 F0:Hp):Cg:=⟨⟨io,True,H0,F0,E0⟩,XR0⟩
def startR(ps:List PV)(k:Nat):Rho:=ps.map (λp=>some (.sh p))++List.replicate k none
def fin:Option Out->Option (Res PV)
 |some (.nx _)=>some (.ok .non)
 |some (.rt p)=>some (.ok p)
 |some (.ex z)=>some (.ex z)
 |_=>none
def rY:Option Out->Option (Res PV)
 |some (.ro p)=>some (.ok p)
 |some (.ex z)=>some (.ex z)
 |_=>none
section
variable{K:Frag}{XR:Hp->Value->Option Addr->PV->Prop}{N:List Str}{vs:List V}{H:Hp}{Q:VK}{E:XK}{t:TS}{b:Sn}{m:List PV->Option (Res PV)}
theorem wX{E:XK}{F:Hp}{ps:List PV}{n:Nat}(s:bf F H)(r:bW K F vs ps)(hN:N.length=vs.length+n):RE K ⟨λ_=>False,True,H,F,E⟩ F H (start N vs) (startR ps n) where
 rb:=⟨s,λ_ _ h _=>h,λ_ _ h=>.inl h,λ_ h=>h.elim⟩
 len:=by unfold start startR;rw[List.length_append,List.length_append,List.length_map,List.length_map,List.length_replicate,List.length_replicate,r.1,hN];have:=r.1;lia
 sh:=λi p e=>by
  unfold startR at e;unfold start;by_cases hi:i<ps.length
  ·rw[Zat (by simpa using hi),Zac] at e
   rw[Zat (by rw[List.length_map,r.1];exact hi),Zac]
   cases h:ps[i]? with
   |none=>rw[h] at e;cases e
   |some q=>
    rw[h] at e;cases e;obtain⟨x,hx,rx⟩:=r.get h;exact⟨x,by rw[hx];rfl,rx⟩
  ·rw[Zaz (by simpa using hi),ZaV] at e
   split at e<;>cases e
 ow:=λi p e=>by
  exfalso;unfold startR at e;by_cases hi:i<ps.length
  ·rw[Zat (by simpa using hi),Zac] at e
   cases h:ps[i]? with
   |none=>rw[h] at e;cases e
   |some q=>rw[h] at e;cases e
  ·rw[Zaz (by simpa using hi),ZaV] at e
   split at e<;>cases e
 dd:=⟨_,RD.no λi p e=>by
  unfold startR at e;by_cases hi:i<ps.length
  ·rw[Zat (by simpa using hi),Zac] at e
   cases h:ps[i]? with
   |none=>rw[h] at e;cases e
   |some q=>rw[h] at e;cases e
  ·rw[Zaz (by simpa using hi),ZaV] at e
   split at e<;>cases e⟩
 dis:=λi j p q a e=>by
  exfalso;unfold startR at e;by_cases hi:i<ps.length
  ·rw[Zat (by simpa using hi),Zac] at e
   cases h:ps[i]? with
   |none=>rw[h] at e;cases e
   |some q=>rw[h] at e;cases e
  ·rw[Zaz (by simpa using hi),ZaV] at e
   split at e<;>cases e
theorem cg{k n:Nat}(hk:N.length=k+n)(hm:∀ ps r,m ps=some r->ps.length=k/\fin (b (startR ps n))=some r)(h:spM K XR0 m vs H Q E)(hS:∀ (io:Addr->Prop) (H0 F0:Hp),(∀ a,¬io a)->MS K (C0 io H0 F0) t b) :
  t { nx:=λ_ H'=>Q .non H',rt:=Q } (start N vs) H:=by
 obtain⟨ps,F,r,s,rp,e,P⟩:=h;obtain⟨hl,e⟩:=hm ps r e;have R:=wX (E:=E0) (N:=N) (n:=n) s rp (by rw[rp.1,hl];exact hk)
 have up:∀ {F' H':Hp},bf F F'->RB ⟨λ_=>False,True,H,F,E0⟩ F' H'->Up F H F' H':=λs' rb=>⟨s',λc o q=>rb.keep c o q id,rb.new,rb.sub⟩;have M:=hS (λ_=>False) H F (λ_ h=>h);cases ho:b (startR ps n) with
 |none=>rw[ho] at e;cases e
 |some o=>
  rw[ho] at e;refine M F H _ _ _ o R ho ?_;cases o with
  |nx ρ=>cases e;exact λF' H' σ s' R'=>P .non F' H' (up s' R'.rb) .non
  |rt p=>cases e;exact λv F' H' s' rb rv=>P v F' H' (up s' rb) rv
  |ex z=>exact λ_ _ _ _ _ _ x=>x.elim
  |ro p=>cases e
  |rd p=>cases e
  |bk ρ=>cases e
  |ct ρ=>cases e
theorem jG{k n:Nat}(hk:N.length=k+n)(hm:∀ ps r,m ps=some r->ps.length=k/\rY (b (startR ps n))=some r)(h:spO K XR0 m vs H Q E)(hS:∀ (io:Addr->Prop) (H0 F0:Hp),(∀ a,¬io a)->MS K (C0 io H0 F0) t b) :
  t { nx:=λ_ H'=>Q .non H',rt:=Q } (start N vs) H:=by
 obtain⟨ps,F,r,s,rp,e,P⟩:=h;obtain⟨hl,e⟩:=hm ps r e;have R:=wX (E:=E0) (N:=N) (n:=n) s rp (by rw[rp.1,hl];exact hk)
 have up:∀ {F' H':Hp},bf F F'->RB ⟨λ_=>False,True,H,F,E0⟩ F' H'->Up F H F' H':=λs' rb=>⟨s',λc o q=>rb.keep c o q id,rb.new,rb.sub⟩;have M:=hS (λ_=>False) H F (λ_ h=>h);cases ho:b (startR ps n) with
 |none=>rw[ho] at e;cases e
 |some o=>
  rw[ho] at e;refine M F H _ _ _ o R ho ?_;cases o with
  |ro p=>cases e;exact λa F' H' s' rb w n1 n2=>P a F' H' (up s' rb) n2 n1 w
  |ex z=>exact λ_ _ _ _ _ _ x=>x.elim
  |nx ρ=>cases e
  |rt p=>cases e
  |rd p=>cases e
  |bk ρ=>cases e
  |ct ρ=>cases e
theorem cj(h:spM K XR m vs H Q E){k:Nat}(hm:∀ ps r,m ps=some r->ps.length=k):vs.length=k:=by
 obtain⟨ps,F,r,s,rp,e,P⟩:=h;rw[rp.1];exact hm ps r e
theorem jH(h:spO K XR m vs H Q E){k:Nat}(hm:∀ ps r,m ps=some r->ps.length=k):vs.length=k:=by
 obtain⟨ps,F,r,s,rp,e,P⟩:=h;rw[rp.1];exact hm ps r e
end
section
variable{X:Cx}{k:Nat}{N:List Str}{scope:Scope}{cl:List (Str×Addr)}{C:Addr}{s2:Shared}{H2:Hp}{fp:List Addr}
theorem kE:IxR (X.comp N scope cl C s2 H2 fp) (rIx X.K):=aK
theorem wY:OpR (X.comp N scope cl C s2 H2 fp) (binaryOp .Add) (La X.K):=bC
theorem OD(hr:fX k X.A):OpR (X.comp N scope cl C s2 H2 fp) (compareOp .Eq) (RL X.K):=dD hr
end
section
variable{K:Frag}{C:Cg}{te:TE}
def CK(xs:List PV)(lo hi st:Option Int):List PV:=(sliceRange (sliceBounds lo hi st xs.length).1 (sliceBounds lo hi st xs.length).2.1 (sliceBounds lo hi st xs.length).2.2).filterMap (xs[·]?)
theorem bW.picks{F:Hp}{xs:List V}{l:List PV}(h:bW K F xs l):∀ js:List Nat,bW K F (js.filterMap (xs[·]?)) (js.filterMap (l[·]?))
 |[]=>.nil
 |j::js=>by
  by_cases hj:j<xs.length
  ·have hl:j<l.length:=by rw[<-h.1];exact hj
   rw[Za5 (Zab hj),Za5 (Zab hl)];exact(bW.picks h js).cons (h.2 j _ _ (Zab hj) (Zab hl))
  ·have hl:¬j<l.length:=by rw[<-h.1];exact hj
   rw[Za4 (ZaD (by omega)),Za4 (ZaD (by omega))]
   exact bW.picks h js
def OJ(f:Fn (List PV))(lo hi st:Fn (Option Int)):Fn PV:=λρ=>bnd (f ρ) λl=>bnd (lo ρ) λa=>bnd (hi ρ) λb=>bnd (st ρ) λc=>if c=some 0 then none else some (.ok (.lst (CK l a b c)))
theorem RZ{f:Fn (List PV)}{lo hi st:Fn (Option Int)}{tl th ts:TO}(h:MJ K C (aV K) te f)(hl:MP' K C tl lo)(hh:MP' K C th hi)(hs:MP' K C ts st):MO K C (TJ K te tl th ts) (OJ f lo hi st):=by
 intro F H σ ρ Q r R e P;refine h.run R e P λl v F1 H1 hk u a=>?_;refine hl.run (R.up u) hk (P.uE u) λo F2 H2 hk2 u2=>?_;refine hh.run (R.up (u.trans u2)) hk2 (P.uE (u.trans u2)) λo2 F3 H3 hk3 u3=>?_;refine hs.run (R.up (u.trans (u2.trans u3))) hk3 (P.uE (u.trans (u2.trans u3))) λo3 F4 H4 hk4 u4=>?_;split at hk4
 ·cases hk4
 ·rename_i hz;cases hk4;obtain⟨b,xs,rfl,h1,r1⟩:=a;have u24:=u2.trans (u3.trans u4);refine⟨b,xs,rfl,u24.hh.seq h1,hz,λp hp=>?_⟩;refine P p F4 _ (u.trans (u24.trans (Up.Jp u4.fh hp))) ((u.hh.trans u24.hh).free hp) (u4.fh.free hp) ⟨_,aX,?_⟩;unfold stepV CK;rw[r1.1];exact(r1.up u24.ff).picks _
end
structure Ue(a:Addr)(F H F' H':Hp):Prop where
 ff:bf F F'
 hb:SameBut a H H'
 fr:∀ b o,F' b=some o->F b=some o\/Frz H b o
 fh:bf F' H'
def Ln(K:Frag)(F:Hp)(a:Addr)(p:PV)(j:Nat)(xs:List V)(l:List PV):Prop:=
 xs.length=l.length/\xs[j]?=some (.ref a)/\l[j]?=some p/\∀ (k:Nat) x q,k≠j->xs[k]?=some x->l[k]?=some q->Rep K F x q
def Lp(K:Frag)(j:Nat)(m:List PV->Option (Res PV)):Sp:=λvs H Q _=>∃ ps F a p p',bf F H/\Ln K F a p j vs ps/\Own K F H a p/\F a=none/\m ps=some (.ok p')/\∀ F' H',Ue a F H F' H'->Own K F' H' a p'->F' a=none->Q .non H'
def jJ(j:Nat)(ps:List PV)(n:Nat):Rho:=(ps.mapIdx λk p=>some (if k=j then Sl.ow p else Sl.sh p))++List.replicate n none
def CN(j:Nat):Option Out->Option (Res PV)
 |some (.nx ρ)=>match ownAt j ρ with
  |some p=>some (.ok p)
  |none=>none
 |_=>none
section
variable{K:Frag}{C:Cg}{N:List Str}{vs:List V}{H F:Hp}{Q:VK}{E:XK}{t:TS}{b:Sn}{m:List PV->Option (Res PV)}{j:Nat}{ps:List PV}{a:Addr}{p:PV}{n:Nat}
theorem kI{i:Nat}{s:Sl}(e:(jJ j ps n)[i]?=some (some s)):∃ q,ps[i]?=some q/\s=if i=j then Sl.ow q else Sl.sh q:=by
 unfold jJ at e;by_cases hi:i<ps.length
 ·rw[Zat (by simpa using hi),List.getElem?_mapIdx] at e
  cases h:ps[i]? with
  |none=>rw[h] at e;cases e
  |some q=>rw[h] at e;exact⟨q,rfl,(Zaa (Zaa e)).symm⟩
 ·rw[Zaz (by simpa using hi),ZaV] at e
  split at e<;>cases e
theorem CP{i:Nat}{x:V}(h:vs[i]?=some x):(start N vs)[i]?=some (some x):=by
 unfold start;rw[Zat (by rw[List.length_map];exact bT h),Zac,h]
 rfl
theorem FT(s:bf F H)(r:Ln K F a p j vs ps)(w:Own K F H a p)(hn:F a=none)(hN:N.length=vs.length+n):RE K ⟨λc=>c=a,False,H,F,E⟩ F H (start N vs) (jJ j ps n) where
 rb:=⟨s,λ_ _ h _=>h,λ_ _ h=>.inl h,λb hb=>by
  obtain⟨o,eo⟩:=w.ne;subst hb;have h1:H b≠none:=by rw[eo];simp
  exact⟨h1,h1⟩⟩
 len:=by unfold start jJ;rw[List.length_append,List.length_append,List.length_map,List.length_mapIdx,List.length_replicate,List.length_replicate,r.1,hN];have:=r.1;omega
 sh:=λi q e=>by
  obtain⟨q',e1,e2⟩:=kI e;by_cases hij:i=j
  ·rw[Zan hij] at e2;cases e2
  ·rw[Zap hij] at e2;cases e2;have hi:i<vs.length:=by rw[r.1];exact bT e1
   exact⟨vs[i],CP (by simp[hi]),r.2.2.2 i _ _ hij (by simp[hi]) e1⟩
 ow:=λi q e=>by
  obtain⟨q',e1,e2⟩:=kI e;by_cases hij:i=j
  ·rw[Zan hij] at e2;cases e2;subst hij;rw[r.2.2.1] at e1;cases e1;exact⟨a,CP r.2.1,w,hn,.inl rfl⟩
  ·rw[Zap hij] at e2;cases e2
 dis:=λi k q q' c e e' _ _=>by
  have key:∀ {i:Nat}{q:PV},(jJ j ps n)[i]?=some (some (.ow q))->i=j:=λ{i q} e=>by
   obtain⟨q',e1,e2⟩:=kI e;by_cases hij:i=j
   ·exact hij
   ·rw[Zap hij] at e2;cases e2
  rw[key e,key e']
 dd:=⟨_,RD.no λi q e=>by
  obtain⟨q',e1,e2⟩:=kI e;by_cases hij:i=j
  ·rw[Zan hij] at e2;cases e2
  ·rw[Zap hij] at e2;cases e2⟩
noncomputable abbrev C1(a:Addr)(H0 F0:Hp):Cg:=⟨⟨λc=>c=a,False,H0,F0,E0⟩,XR0⟩
theorem Lq{k:Nat}(hk:N.length=k+n)(hm:∀ ps r,m ps=some r->ps.length=k/\CN j (b (jJ j ps n))=some r)(h:Lp K j m vs H Q E)(hS:∀ (a:Addr) (H0 F0:Hp),MS K (C1 a H0 F0) t b) :
  t { nx:=λ_ H'=>Q .non H',rt:=Q } (start N vs) H:=by
 obtain⟨ps,F,a,p,p',s,rp,w,hn,e,P⟩:=h;obtain⟨hl,e⟩:=hm ps _ e;have R:=FT (E:=E0) (N:=N) (n:=n) s rp w hn (by rw[rp.1,hl];exact hk)
 cases ho:b (jJ j ps n) with
 |none=>rw[ho] at e;cases e
 |some o=>
  rw[ho] at e;refine hS a H F F H _ _ _ o R ho ?_;cases o with
  |nx ρ=>
   intro F' H' σ s' R';have e:(match ownAt j ρ with|some p=>some (Res.ok p)|none=>none)=some (.ok p'):=e
   split at e
   ·rename_i q hq;cases e;obtain⟨c,e1,e2,e3,e4⟩:=R'.ow j _ (cV hq);have hc:c=a:=e4.elim id λz=>z.1.elim;subst hc;exact P F' H' ⟨s',λb o q hb=>R'.rb.keep b o q hb,R'.rb.new,R'.rb.sub⟩ e2 e3
   ·cases e
  |_=>cases e
theorem Lr(h:Lp K j m vs H Q E){k:Nat}(hm:∀ ps r,m ps=some r->ps.length=k):vs.length=k:=by
 obtain⟨ps,F,a,p,p',s,rp,w,hn,e,P⟩:=h;rw[rp.1];exact hm ps _ e
def MAH(K:Frag)(C:Cg)(i j:Nat)(t:TA)(f:Fn (List PV)):Prop:=
 ∀ F H σ ρ Q r a p,RE K C.toCf F H σ ρ->ρ[i]?=some (some (.ow p))->σ[i]?=some (some (.ref a))->f ρ=some r->Pr C F (λl=>∀ xs F' H',Up F H F' H'->Ln K F' a p j xs l->Q xs H') r->t σ H Q
def wZ(i:Nat)(g:Fn (List PV)):Fn (List PV):=λρ=>match ownAt i ρ with
 |some p=>bnd (g ρ) λl=>some (.ok (p::l))
 |none=>none
theorem Ls{i:Nat}{t:TA}{g:Fn (List PV)}(h:MA K C t g):MAH K C i 0 (qR (o9 i) t) (wZ i g):=by
 intro F H σ ρ Q r a p R e ea hf P;refine⟨_,ea,?_⟩;unfold wZ at hf;have eo:ownAt i ρ=some p:=by unfold ownAt;rw[e]
 rw[eo] at hf;refine h.run R hf P λl xs F1 H1 hk u b=>?_;cases hk;refine P _ F1 H1 u ⟨by simp[b.1],rfl,rfl,λk x q hk ex eq=>?_⟩
 cases k with
 |zero=>exact absurd rfl hk
 |succ k=>exact b.2 k x q (by simpa using ex) (by simpa using eq)
theorem RE.UJ{F' H':Hp}{σ:St}{ρ:Rho}{p':PV}{i:Nat}(R:RE K C.toCf F H σ ρ)(e:ρ[i]?=some (some (.ow p)))(ea:σ[i]?=some (some (.ref a)))(u:Ue a F H F' H')(w:Own K F' H' a p')(hn:F' a=none):RE K C.toCf F' H' σ (ρ.set i (some (.ow p'))):=by
 obtain⟨a',e1,e2,e3,e4⟩:=R.ow i p e;rw[ea] at e1;cases e1;obtain⟨oa,eoa⟩:=e2.ne;refine⟨⟨u.fh,λb o q n=>?_,λb o q=>?_,λb hb=>⟨?_,(R.rb.ios b hb).2⟩⟩,by simp[R.len],λj q f=>?_,λj q f=>?_,λj k q q' b f f' g g'=>?_,?_⟩
 ·have:b≠a:=λz=>by
   subst z;rcases e4 with z|z
   ·exact n z
   ·rw[z.2] at q;cases q
  exact u.hb b o (R.rb.keep b o q n) this
 ·rcases u.fr b o q with z|z
  ·exact R.rb.new b o z
  ·exact .inr (z.imp (λz=>R.rb.u6 z) id)
 ·by_cases hba:b=a
  ·subst hba;obtain⟨o,eo⟩:=w.ne;rw[eo];simp
  ·cases hb':H b with
   |none=>exact absurd hb' (R.rb.ios b hb).1
   |some o=>rw[u.hb b o hb' hba];simp
 ·rcases get_set f with⟨f1,f2⟩|⟨f1,f2⟩
  ·cases f2
  ·obtain⟨v,g1,g2⟩:=R.sh j q f2;exact⟨v,g1,g2.up u.ff⟩
 ·rcases get_set f with⟨f1,f2⟩|⟨f1,f2⟩
  ·subst f1;cases f2;exact⟨a,ea,w,hn,e4⟩
  ·obtain⟨b,g1,g2,g3,g4⟩:=R.ow j q f2;have hb:b≠a:=λz=>by subst z;exact f1 (R.dis i j p q b e f2 ea g1)
   refine⟨b,g1,g2.up u.ff λo qq=>u.hb b o qq hb,?_,g4⟩;cases hF:F' b with
   |none=>rfl
   |some o=>
    obtain⟨ob,eob⟩:=g2.ne;rcases u.fr b o hF with z|z|⟨ys,z⟩
    ·rw[g3] at z;cases z
    ·rw[eob] at z;cases z
    ·subst z;have w:=u.fh _ _ hF;rw[u.hb b _ eob hb] at w;cases w;exact(g2.Cj eob).elim
 ·have key:∀ (j:Nat) q,(ρ.set i (some (Sl.ow p')))[j]?=some (some (.ow q))->∃ q0,ρ[j]?=some (some (.ow q0)):=λj q f=>by
   rcases get_set f with⟨f1,f2⟩|⟨f1,f2⟩
   ·subst f1;exact⟨p,e⟩
   ·exact⟨q,f2⟩
  obtain⟨q0,k0⟩:=key j q f;obtain⟨q1,k1⟩:=key k q' f';exact R.dis j k q0 q1 b k0 k1 g g'
 ·obtain⟨P,d⟩:=R.dd;have na:∀ j b,P j b->b≠a:=λj b z e'=>by subst e';exact d.ow j i p b z e ea
  refine⟨P,λj b z=>?_,d.dis,λj k q b z f g=>?_,λj q f=>?_⟩
  ·obtain⟨a1,⟨o',a2,a3⟩,a4⟩:=d.own j b z;have hb':=u.hb b _ a2 (na j b z);refine⟨?_,⟨o',hb',a3⟩,a4⟩;cases hF:F' b with
   |none=>rfl
   |some o=>
    rcases u.fr b o hF with w|w|⟨ys,w⟩
    ·rw[a1] at w;cases w
    ·rw[a2] at w;cases w
    ·subst w;have w:=u.fh _ _ hF;rw[hb'] at w;cases w;exact absurd rfl (a3 ys)
  ·rcases get_set f with⟨f1,f2⟩|⟨f1,f2⟩
   ·subst f1;exact d.ow j i p b z e g
   ·exact d.ow j k q b z f2 g
  ·rcases get_set f with⟨f1,f2⟩|⟨f1,f2⟩
   ·cases f2
   ·obtain⟨w,e3,e5⟩:=d.dp j q f2;exact⟨w,e3,e5.up u.ff (λb o z q=>u.hb b o q (na j b z)) λb ys q=>u.hb b _ q λz=>by subst z;exact e2.Cj q⟩
def mIO(i:Nat)(m:List PV->Option (Res PV))(f:Fn (List PV)):Sn:=λρ=>match ownAt i ρ with
 |some _=>iz (f ρ) λl=>match m l with
  |some (.ok p')=>some (.nx (ρ.set i (some (.ow p'))))
  |_=>none
 |none=>none
theorem Ug{i j:Nat}{t:TA}{f:Fn (List PV)}{m:List PV->Option (Res PV)}(h:MAH K C i j t f):MS K C (Kg (wA (Lp K j m) [] C.E t)) (mIO i m f):=by
 intro F H σ ρ D o R e P;unfold mIO at e;split at e
 case h_2=>cases e
 rename_i p hp;have hp:=cV hp;obtain⟨a,ea,w,hn,h4⟩:=R.ow i p hp;rcases gf e with⟨z,e1,rfl⟩|⟨l,e1,e2⟩
 ·exact h F H σ ρ _ _ a p R hp ea e1 P
 ·refine h F H σ ρ _ _ a p R hp ea e1 λxs F1 H1 u rr=>?_;split at e2
  ·rename_i p' hm;cases e2;have R1:=R.up u;obtain⟨a',ea',w',hn',_⟩:=R1.ow i p hp;rw[ea] at ea';cases ea';refine⟨l,F1,a,p,p',u.fh,by rw[ZaM];exact rr,w',hn',hm,λF2 H2 u2 w2 n2=>?_⟩
   exact P F2 H2 σ (u.ff.trans u2.ff) (R1.UJ hp ea u2 w2 n2)
  ·cases e2
def zU:Sn:=λ_=>none
theorem CQ:MS K C Kh zU:=λ_ _ _ _ _ _ _ e _=>nomatch e
end
section
def CT:Fn PV:=λ_=>some (.ok (.dk []))
end
theorem w5:typeLookup (.type "list") "keys"=pure none:=am_miss_of_fast (by decide +kernel)
theorem vG:typeLookup (.type "tuple") "keys"=pure none:=am_miss_of_fast (by decide +kernel)
theorem gR:entryFor table "dict.update.loop"=some Builtin.«dict.update.loop»:=entryFor_of_tree (by kernel_rfl)
theorem cQ:plainId "dict.update.loop"=true:=by decide +kernel
section
variable{prog:Program}{w:World}{A:Around}{E:Value->Shared->Prop}{s:Shared}{a:Addr}{o:Obj}{xs:Array Value}{k:Nat}{name:Str}{Q:Option Value->Shared->Prop}
theorem rZ(hx:s.heap.get? a=some o)(hc:o.cls=.type "list")(hdat:o.data=.seq xs k)(hd:o.dict=none)(hmiss:typeLookup (.type "list") name=pure none)(hname:(["__module__","__name__","__qualname__","__doc__","__annotations__"]:List Str).contains name=false)(hA:A.handled=none)
  (h:∀ h' tk,(∀ b ob,s.heap.get? b=some ob->h'.get? b=some ob)->Q none { s with heap:=h',toks:=tk })(hsz:name.length+100<=sizeLine:=by size_fits) :
  wpAny (model prog w) A (getAttr? (.ref a) name) Q E s:=by
 obtain⟨c,dct,dat,sl⟩:=o;simp only at hc hdat hd;subst hc hdat hd;obtain⟨hp,g,d,tk,os⟩:=s;have hT:∀ tk',(⟨hp,g,d,tk',os⟩:Shared).TypeIs (.ref a) "list":=λ_=>⟨_,hx,rfl⟩;have f1:=sub_AttributeError;have f3:=F.slot_list_getattribute.lookup;have f4:=F.slot_list_getattribute.bind (.ref a);have f5:=am_list_getattr_none;unfold getAttr? getAttrBy? getAttrBy;repeat (any_goals (first|assumption|exact hT _|((with_reducible show wpAny _ _ (call (Value.builtin "list.__getattribute__") _ _) _ _ _);refine call_meets F.slot_list_getattribute (hT _) am_entry_list_getattribute (F.args_list_getattribute_2 _ _) (meets_getattribute_miss_list a xs k sl name _ hmiss hname hsz) ⟨hx,hA,λh' tk' e hx'=>?_⟩)|wp_step))
 obtain⟨t',u',he⟩:=hx'.there;show wpAny _ _ (getattributeRaised _ _ _ _ _ _ _) _ _ _
 unfold getattributeRaised;repeat (any_goals (first|assumption|wp_step))
 exact h _ _ hx'.keeps
theorem qO(hx:s.heap.get? a=some o)(hc:o.cls=.type "tuple")(hdat:o.data=.seq xs k)(hd:o.dict=none)(hmiss:typeLookup (.type "tuple") name=pure none)(hname:(["__module__","__name__","__qualname__","__doc__","__annotations__"]:List Str).contains name=false)(hA:A.handled=none)
  (h:∀ h' tk,(∀ b ob,s.heap.get? b=some ob->h'.get? b=some ob)->Q none { s with heap:=h',toks:=tk })(hsz:name.length+100<=sizeLine:=by size_fits) :
  wpAny (model prog w) A (getAttr? (.ref a) name) Q E s:=by
 obtain⟨c,dct,dat,sl⟩:=o;simp only at hc hdat hd;subst hc hdat hd;obtain⟨hp,g,d,tk,os⟩:=s;have hT:∀ tk',(⟨hp,g,d,tk',os⟩:Shared).TypeIs (.ref a) "tuple":=λ_=>⟨_,hx,rfl⟩;have f1:=sub_AttributeError;have f3:=F.slot_tuple_getattribute.lookup;have f4:=F.slot_tuple_getattribute.bind (.ref a);have f5:=am_tuple_getattr_none;unfold getAttr? getAttrBy? getAttrBy;repeat (any_goals (first|assumption|exact hT _|((with_reducible show wpAny _ _ (call (Value.builtin "tuple.__getattribute__") _ _) _ _ _);refine call_meets F.slot_tuple_getattribute (hT _) am_entry_tuple_getattribute (F.args_tuple_getattribute_2 _ _) (meets_getattribute_miss_tuple a xs k sl name _ hmiss hname hsz) ⟨hx,hA,λh' tk' e hx'=>?_⟩)|wp_step))
 obtain⟨t',u',he⟩:=hx'.there;show wpAny _ _ (getattributeRaised _ _ _ _ _ _ _) _ _ _
 unfold getattributeRaised;repeat (any_goals (first|assumption|wp_step))
 exact h _ _ hx'.keeps
end
section
variable{X:Cx}{pins:List (Addr×Obj)}{σ:St}{H H':Hp}{s:Shared}{d:Addr}{y v:V}{u r:Value}{A:Around}{E:Value->Shared->Prop}
theorem Jz{Q:Unit->Shared->Prop}(hu:A.units<cLine)(I:Inv X pins σ H s)(g:tM H d y v H')(ry:RelV y u)(rv:RelV v r)(h:∀ h' tk,Heap.SameBut d s.heap h'->Inv X pins σ H' { s with heap:=h',toks:=tk }->Q () { s with heap:=h',toks:=tk }) :
  wpAny (model X.prog X.w) A (dictSet d u r) Q E s:=by
 rcases g with⟨kvs,k,e,ey,l,eH⟩|⟨kvs,k,b,e,ey,eb,l,eH⟩
 ·subst ey eH;obtain⟨z,hd,vs,rel,dd⟩:=QC I.hok e;have hz:vs.length<=sizeLine:=by rw[<-rel.length];exact z
  have hl:(putK kvs k v).length<=sizeLine:=by have:=km kvs k v;omega
  refine wpAny_dictSet_pairs (hsz:=hz) (yJ ry) dd λh' dd' hs=>h h' _ hs ?_;have he:∃ q,h'.get? d=some q:=let⟨q,_,_,hq,_⟩:=dd';⟨q,hq⟩;exact vO I (by rw[e];exact True.intro) hs he (KD hl hd (rel.put k rv) dd')
 ·subst ey eH;cases (show u=Value.ref b from ry);obtain⟨z,hd,xs,rel,dd⟩:=QD I.hok e;have hz:xs.length<=sizeLine:=by rw[<-Paired.length rel];exact z
  have hl:(putK kvs k v).length<=sizeLine:=by have:=km kvs k v;omega
  refine wpAny_dictSet_heap (hsz:=hz) (show(tupleKind (di X.prog X.w)).room A from hu) (uD I.hok eb) dd λh' dd' hs=>h h' _ hs ?_;obtain⟨q,es,ep,hq,h2,h3,h4,_,h5⟩:=dd';refine vO I (by rw[e];exact True.intro) hs ⟨q,hq⟩ ⟨hl,hd,_,(rel.put k eb rv).keeps λc ys ec=>?_,q,es,ep,hq,h2,h3,h4,h5⟩
  rw[aU (Qo ec e (λz=>nomatch z))];exact ec
theorem tM.other(g:tM H d y v H'){b:Addr}(hb:b≠d):H' b=H b:=by
 rcases g with⟨kvs,k,e,ey,l,rfl⟩|⟨kvs,k,b',e,ey,eb,l,rfl⟩
 ·exact aU hb
 ·exact aU hb
def yW(d:Addr):List (V×V)->Hp->(Hp->Prop)->Prop
 |[],H,Q=>Q H
 |(y,v)::r,H,Q=>∃ H',tM H d y v H'/\yW d r H' Q
def zG(K:Frag)(H:Hp)(ys:List V)(ps:List (V×V)):Prop:=ys.length=ps.length/\∀ (j:Nat) x p,ys[j]?=some x->ps[j]?=some p->∃ T,x=.ref T/\SqT K H T [p.1,p.2]
theorem SqT.but{K:Frag}{T:Addr}{xs:List V}(h:SqT K H T xs)(hb:∀ b,b≠d->H' b=H b)(hn:T≠d):SqT K H' T xs:=by
 rcases h with(h|⟨o,h⟩)|h
 ·exact .inl (.inl (by rw[hb T hn];exact h))
 ·exact .inl (.inr ⟨o,by rw[hb T hn];exact h⟩)
 ·exact .inr h
theorem Lw{it:Addr}{fp:List Addr}{n:Nat}{P:Nat->Value->Prop}{St:Nat->Heap->Prop}{ps:List (V×V)}{R:Result->Shared->Prop}{H0:Hp}(hc:X.calm=true)(W:Walks X.prog X.w A.in1 it fp [it] n P St)(hu:A.in1.units<cLine)
  (hn:ps.length=n)(hd:d ∉ fp)(hit:∀ H,H d≠none->(∀ b,b≠d->H b=H0 b)->wg X pins H it)
  (hp:∀ (i:Nat) v p,P i v->ps[i]?=some p->∃ T,v=.ref T/\T≠d/\SqT X.K H0 T [p.1,p.2]) :
  ∀ (k i:Nat) (s:Shared) (H:Hp),n-i=k->i<=n->St i s.heap->Inv X pins σ H s->H d≠none->(∀ b,b≠d->H b=H0 b)->∀ tk,yW d (ps.drop i) H (λH'=>∀ s',Inv X pins σ H' s'->R (.ok (.ret .none)) s') ->
   codeAny (model X.prog X.w) A (.builtin "dict.update.loop" ⟨[.ref d,.ref it,.int i tk,.none],[]⟩) R s:=by
 intro k;induction k with
 |zero=>
  intro i s H hk hi hst I hHd hb tk hR;have hin:i=n:=by omega
  subst hin;refine codeAny_builtin gR ?_;rw[Around.under_plainId cQ _];show wpAny _ A.in1 (pyNext (.ref it)>>=_) _ _ s
  refine Zah (W.done s _ _ hst λh' tk' hk'=>?_);show wpAny _ _ (Builtin.Dict.addKeywords d []>>=_) _ _ _
  rw[List.drop_of_length_le (by omega)] at hR
  exact Zah (Zaw (Zaw (hR _ (I.zF hk' λb hb'=>by rw[ZaW.mp hb'];exact hit H hHd hb))))
 |succ k ih=>
  intro i s H hk hi hst I hHd hb tk hR;have hlt:i<n:=by omega
  have hlp:i<ps.length:=by omega
  have hdr:ps.drop i=ps[i]::ps.drop (i+1):=Za1 hlp;rw[hdr] at hR;refine codeAny_builtin gR ?_;rw[Around.under_plainId cQ _];show wpAny _ A.in1 (pyNext (.ref it)>>=_) _ _ s
  refine Zah (W.item i s _ _ hlt hst λv h' tk' hP hst' hk'=>?_);obtain⟨T,rfl,hT,hq⟩:=hp i v ps[i] hP (by simp[hlp])
  have I1:Inv X pins σ H { s with heap:=h',toks:=tk' }:=I.zF hk' λb hb'=>by rw[ZaW.mp hb'];exact hit H hHd hb
  obtain⟨its,rv,ht,_⟩:=I1.tuple (SqT.but hq hb hT);obtain⟨u1,u2,rfl,r1,r2⟩:∃ u1 u2,its=[u1,u2]/\RelV ps[i].1 u1/\RelV ps[i].2 u2:=by
   cases rv with
   |cons a t=>cases t with
    |cons b t=>cases t;exact⟨_,_,rfl,a,b⟩
  obtain⟨H',g,hR⟩:=hR;refine Zah (wpAny_holding (Zah (wpAny_tryCatch ?_)));unfold Builtin.Dict.pairItems;refine Zah (wpAny_typeOf ht.typeIs ?_);rw[Zan (by decide)]
  obtain⟨o,h1,_,m,h2⟩:=ht;refine Zah (wpAny_seqItems h1 h2 (Zaw ?_));show wpAny _ A.in1 (holding [u1,u2] (dictSet d u1 u2)) _ _ _
  refine wpAny_holding (Jz hu I1 g r1 r2 λh2' tk2 hs2 I2=>?_);refine Zaw ⟨plainId_quiet cQ _,?_⟩;have:=ih (i+1) { s with heap:=h2',toks:=tk2 } H' (by omega) hlt (W.frame _ _ _ hst' λb hb' o e=>(hs2.2 b λz=>hd (by rw[<-z];exact hb')).trans e) I2
   (by rcases g with⟨_,_,_,_,_,rfl⟩|⟨_,_,_,_,_,_,_,rfl⟩<;>rw[aX]<;>simp) (λb hb'=>(tM.other g hb').trans (hb b hb')) 0 hR
  exact this
end
theorem CV:∀ {xs:List V}{us:List Value}{i:Nat}{u:Value},Vals xs us->us[i]?=some u->∃ x,xs[i]?=some x/\RelV x u
 |[],_,i,u,r,h=>by cases r;simp at h
 |x::xs,_,i,u,r,h=>by
  cases r with
  |cons a t=>
   cases i with
   |zero=>simp at h;subst h;exact⟨x,rfl,a⟩
   |succ i=>obtain⟨y,h1,h2⟩:=CV (i:=i) t (by simpa using h);exact⟨y,by simpa using h1,h2⟩
def zV(K:Frag)(n:HO):List V->Hp->VK->Prop:=λxs H Q=>∃ p ys ps,xs=[.ref p]/\(SqL K H p ys\/H p=some (.tup ys))/\zG K H ys ps/\∀ d,H d=none->yW d ps (upd H d n) λH'=>Q (.ref d) H'
section
variable{X:Cx}
theorem FW{n:HO}(hc:X.calm=true)(hu:X.A.units+64<cLine)(hn:n=.dK []\/n=.dT []):qQ X (.type "dict") (zV X.K n):=by
 intro pins s σ H xs us Q I rv h;obtain⟨p,ys,ps,rfl,hq,hps,q⟩:=h;obtain⟨u,rfl,ru⟩:=rv.one;cases ru;have hh:X.A.handled=none:=I.ok.hd hc;refine callType_codes (Q₁:=λobj s₁=>obj=.ref s.heap.objs.size/\s₁={ s with heap:=s.heap.push { cls:=.type "dict",data:=.dict #[] } }) F.kt_called_dict (F.kt_typeCall_dict_1 _) F.entry_dict_init (kt_code_dict_new _ ⟨rfl,rfl⟩) ?_;rintro obj s₁ ⟨rfl,rfl⟩;have ok:d8 X.prog X.w (upd H s.heap.objs.size n) (s.heap.push { cls:=.type "dict",data:=.dict #[] }) s.heap.objs.size n:=by
  rcases hn with rfl|rfl
  ·exact Cd s.heap I.big
  ·exact Ce s.heap I.big
 have hfree:H s.heap.objs.size=none:=I.hok.fresh (Zag _);have I1:Inv X pins σ (upd H s.heap.objs.size n) { s with heap:=s.heap.push { cls:=.type "dict",data:=.dict #[] } }:=I.laid (a:=s.heap.objs.size) (o:=n) (t':=s.toks) (λ_ _ q=>Zaf _ q) (Zag _) ok;have q:=q _ hfree;have hd1:(s.heap.push { cls:=.type "dict",data:=.dict #[] }).get? s.heap.objs.size=some { cls:=.type "dict",data:=.dict #[] }:=Zau _ rfl;have tyD:({ s with heap:=s.heap.push { cls:=.type "dict",data:=.dict #[] } }:Shared).TypeIs (.ref s.heap.objs.size) "dict":=⟨_,hd1,rfl⟩;refine⟨tyD,F.args_dict_init_2 _ _,?_⟩;unfold Builtin.«dict.__init__»;refine Zah ?_;unfold Builtin.Dict.selfAndRest;refine Zah (wpAny_notOrdered_dict tyD ?_);show wpAny _ _ (pure (s.heap.objs.size,[Value.ref p])) _ _ _
 refine Zaw ?_;show wpAny _ _ (Builtin.Dict.updateFrom "dict.__init__" s.heap.objs.size (.ref p) [] .none) _ _ _
 unfold Builtin.Dict.updateFrom;have same:bf H (upd H s.heap.objs.size n):=d9 hfree;have hnd:∀ (j:Nat) x pr,ys[j]?=some x->ps[j]?=some pr->∃ T,x=.ref T/\T≠s.heap.objs.size/\SqT X.K (upd H s.heap.objs.size n) T [pr.1,pr.2]:=λj x pr e1 e2=>by
  obtain⟨T,rfl,hT⟩:=hps.2 j x pr e1 e2;obtain⟨its,_,ht,_⟩:=I.tuple hT;exact⟨T,rfl,ZaF ht.lt,same.tup hT⟩
 have fin:∀ (h2:Heap) (tk:Nat) (o:Obj) (St:Nat->Heap->Prop) (its:List Value),(∀ b ob,(s.heap.push { cls:=.type "dict",data:=.dict #[] }).get? b=some ob->h2.get? b=some ob)->Vals ys its ->
   Walks X.prog X.w X.A.in1.in1 h2.objs.size [h2.objs.size,p] [h2.objs.size] its.toArray.size (λi v=>its.toArray[i]?=some v) St->St 0 (h2.push o)->p≠s.heap.objs.size->(∀ b,o.cls≠.ref b) ->
   codeAny (model X.prog X.w) X.A.in1 (.builtin "dict.update.loop" ⟨[.ref s.heap.objs.size,.ref h2.objs.size,.int (0:Nat) 0,.none],[]⟩) (wants (λr s₂=>r=.none/\EP X pins σ Q (.ref s.heap.objs.size) s₂) X.xe) { s with heap:=h2.push o,toks:=tk }:=by
  intro h2 tk o St its hk rv W h0 hp _;have I2:Inv X pins σ (upd H s.heap.objs.size n) { s with heap:=h2,toks:=tk }:=I1.kept hk;have I3:Inv X pins σ (upd H s.heap.objs.size n) { s with heap:=h2.push o,toks:=tk }:=I2.kept (t':=tk) λb ob e=>Zaf _ e;have lt1:s.heap.objs.size<h2.objs.size:=Zam (hk _ _ hd1);have hn2:upd H s.heap.objs.size n h2.objs.size=none:=I2.hok.fresh (Zag _);refine Lw (A:=X.A.in1) (ps:=ps) (H0:=upd H s.heap.objs.size n) hc W (show X.A.units+2<cLine by lia) ?_ ?_ (λHx hx1 hx2=>?_) (λi v pr hv hpr=>?_) _ 0 _ _ rfl (Zbg _) h0 I3 (by rw[aX];simp) (λ_ _=>rfl) 0 ?_
  ·rw[List.size_toArray,<-rv.length];exact hps.1.symm
  ·intro z;rcases Zao.mp z with z|z
   ·exact absurd z (ZaF lt1)
   ·exact absurd (ZaW.mp z).symm hp
  ·exact I2.IW (Zag _) (by rw[hx2 _ (Nat.ne_of_gt lt1)];exact hn2)
  ·rw[List.getElem?_toArray] at hv;obtain⟨y,hy,ry⟩:=CV rv hv;obtain⟨T,rfl,h1,h2⟩:=hnd i y pr hy hpr;cases ry;exact⟨T,rfl,h1,h2⟩
  ·rw[Za8];have mono:∀ (ps:List (V×V)) (Hx:Hp) (P1 P2:Hp->Prop),(∀ H,P1 H->P2 H)->yW s.heap.objs.size ps Hx P1->yW s.heap.objs.size ps Hx P2:=by
    intro ps;induction ps with
    |nil=>exact λHx P1 P2 hP h=>hP _ h
    |cons a r ih=>exact λHx P1 P2 hP ⟨H',g,h⟩=>⟨H',g,ih _ _ _ hP h⟩
   exact mono _ _ _ _ (λHx hQ s' Is=>⟨rfl,.ref _,Hx,Is,rfl,hQ⟩) q
 rcases hq with hq|hq
 ·obtain⟨its,rv,pl,hz⟩:=I1.list (same.seq hq);have hp:p≠s.heap.objs.size:=λz=>by
   obtain⟨o,m,e,c,_⟩:=pl;rw[z,hd1] at e;cases e;exact absurd (show Value.type "dict"=Value.type "list" from c) (by decide)
  obtain⟨o,m,e,c,dn,dt⟩:=id pl;refine Zah (wpAny_typeOf (show Shared.TypeIs _ (.ref p) "list" from⟨_,e,c⟩) ?_);rw[Zan (by decide)]
  refine Zah (rZ e c dt dn w5 (by decide +kernel) hh λh2 tk hk=>?_)
  rw[Zan (show(none:Option Value).isNone=true from rfl)];refine Zah (wpAny_rule (Zah (wpAny_pyIter_list ((pl.keeps hk).isList) ?_)));refine Zaw ⟨plainId_quiet cQ _,fin h2 tk _ _ its hk rv (Walks.list (A:=X.A.in1.in1) hh _ p (ZaF (pl.keeps hk).lt) its.toArray) ⟨⟨_,Zau _ rfl,rfl,rfl⟩,(pl.keeps λb ob eb=>Zaf _ (hk b ob eb)).isList⟩ hp (λb z=>nomatch z)⟩
 ·obtain⟨_,its,rv,tn⟩:=(show d8 X.prog X.w _ _ p (.tup ys) from I1.hok p _ (same _ _ hq));have hp:p≠s.heap.objs.size:=λz=>by
   obtain⟨⟨o,e,c,_⟩,_⟩:=tn;rw[z,hd1] at e;cases e;exact absurd (show Value.type "dict"=Value.type "tuple" from c) (by decide)
  obtain⟨⟨o,e,c,m,dt⟩,dn⟩:=id tn;refine Zah (wpAny_typeOf (show Shared.TypeIs _ (.ref p) "tuple" from⟨_,e,c⟩) ?_);rw[Zan (by decide)]
  refine Zah (qO e c dt (dn o e) vG (by decide +kernel) hh λh2 tk hk=>?_)
  rw[Zan (show(none:Option Value).isNone=true from rfl)];have tp:({ s with heap:=h2,toks:=tk }:Shared).heap.IsTuple p its.toArray:=⟨o,hk _ _ e,c,m,dt⟩;refine Zah (wpAny_rule (Zah (wpAny_pyIter_tuple tp ?_)));refine Zaw ⟨plainId_quiet cQ _,fin h2 tk _ _ its hk rv (Walks.tuple (A:=X.A.in1.in1) hh _ p (ZaF (Zam (hk _ _ e))) its.toArray) ⟨⟨_,Zau _ rfl,rfl,rfl⟩,⟨o,Zaf _ (hk _ _ e),c,m,dt⟩⟩ hp (λb z=>nomatch z)⟩
end
section
variable{κ:Type}[DecidableEq κ]
def gU:List (κ×PV)->κ->Option PV
 |[],_=>none
 |(a,p)::l,k=>if a=k then some p else gU l k
def je:List (κ×PV)->κ->PV->List (κ×PV)
 |[],k,p=>[(k,p)]
 |(a,q)::l,k,p=>if a=k then(a,p)::(if(l.any λe=>decide (e.1=k))=true then je l k p else l) else(a,q)::je l k p
inductive gF(K:Frag)(F:Hp):List (κ×V)->List (κ×PV)->Prop
 |nil:gF K F [] []
 |cons {k:κ}{v:V}{p:PV}{xs:List (κ×V)}{l:List (κ×PV)} (h:Rep K F v p) (t:gF K F xs l):gF K F ((k,v)::xs) ((k,p)::l)
variable{K:Frag}{F:Hp}{xs:List (κ×V)}{l:List (κ×PV)}{k:κ}
theorem gF.of:∀ {xs:List (κ×V)}{l:List (κ×PV)},xs.map (·.1)=l.map (·.1)->(∀ (j:Nat) x p,xs[j]?=some x->l[j]?=some p->Rep K F x.2 p.2)->gF K F xs l
 |[],[],_,_=>.nil
 |[],_::_,h,_=>by simp at h
 |_::_,[],h,_=>by simp at h
 |(a,v)::xs,(b,p)::l,h,hr=>by
  simp only[Zai,List.cons.injEq] at h;obtain⟨h1,h2⟩:=h;have h1:a=b:=h1;subst h1;exact .cons (hr 0 _ _ rfl rfl) (gF.of h2 λj x p e1 e2=>hr (j+1) x p (by simpa using e1) (by simpa using e2))
theorem gF.keys(h:gF K F xs l):xs.map (·.1)=l.map (·.1):=by
 induction h with
 |nil=>rfl
 |cons h t ih=>simp[ih]
theorem gF.len(h:gF K F xs l):xs.length=l.length:=by
 have:=congrArg List.length h.keys;simpa using this
theorem gF.at(h:gF K F xs l):∀ (j:Nat) x p,xs[j]?=some x->l[j]?=some p->Rep K F x.2 p.2:=by
 induction h with
 |nil=>intro j x p e;simp at e
 |cons h t ih=>
  intro j x p e1 e2;cases j with
  |zero=>simp at e1 e2;subst e1 e2;exact h
  |succ j=>exact ih j x p (by simpa using e1) (by simpa using e2)
theorem gF.none(h:gF K F xs l)(e:gU l k=none):vD xs k=none:=by
 induction h with
 |nil=>rfl
 |@cons a v p xs l h t ih=>
  unfold gU at e;split at e
  ·cases e
  ·rename_i hk;rw[pB hk];exact ih e
theorem gF.some{p:PV}(h:gF K F xs l)(e:gU l k=some p):∃ v,vD xs k=some v/\Rep K F v p:=by
 induction h with
 |nil=>cases e
 |@cons a v q xs l h t ih=>
  unfold gU at e;split at e
  ·rename_i hk;cases e;exact⟨v,tL hk,h⟩
  ·rename_i hk;obtain⟨w,h1,h2⟩:=ih e;exact⟨w,by rw[pB hk];exact h1,h2⟩
theorem gF.any(h:gF K F xs l):(xs.any λe=>decide (e.1=k))=l.any λe=>decide (e.1=k):=by
 induction h with
 |nil=>rfl
 |cons h t ih=>simp only[Zbn,ih]
theorem gF.repl{v:V}{p:PV}(h:gF K F xs l)(r:Rep K F v p):(l.any λe=>decide (e.1=k))=true->gF K F (xs.map λkv=>if kv.1=k then(kv.1,v) else kv) (je l k p):=by
 induction h with
 |nil=>intro z;cases z
 |@cons a w q xs l h t ih=>
  intro z;unfold je;rw[Zai];by_cases hk:a=k
  ·rw[Zan hk,Zan hk];refine .cons r ?_;by_cases hl:(l.any λe=>decide (e.1=k))=true
   ·rw[Zan hl];exact ih hl
   ·rw[Zap hl];have hx:∀ e∈xs,¬e.1=k:=λe he z=>hl (by rw[<-t.any];exact List.any_eq_true.mpr ⟨e,he,by simpa using z⟩)
    rw[show xs.map (λkv=>if kv.1=k then(kv.1,v) else kv)=xs from by
     conv=>rhs;rw[<-List.map_id xs]
     exact List.map_congr_left λe he=>by rw[Zap (hx e he)];rfl]
    exact t
  ·rw[Zap hk,Zap hk];refine .cons h (ih ?_);rw[Zbn] at z;simpa[hk] using z
theorem gF.snoc{v:V}{p:PV}(h:gF K F xs l)(r:Rep K F v p):(l.any λe=>decide (e.1=k))=false->gF K F (xs++[(k,v)]) (je l k p):=by
 induction h with
 |nil=>intro _;exact .cons r .nil
 |@cons a w q xs l h t ih=>
  intro z;rw[Zbn,Bool.or_eq_false_iff] at z;have hk:¬a=k:=by simpa using z.1
  unfold je;rw[Zap hk];exact .cons h (ih z.2)
theorem gF.put{v:V}{p:PV}(h:gF K F xs l)(r:Rep K F v p):gF K F (putK xs k v) (je l k p):=by
 unfold putK;by_cases z:(xs.any λe=>decide (e.1=k))=true
 ·rw[Zan z];exact h.repl r (by rw[<-h.any];exact z)
 ·rw[Zap z];exact h.snoc r (by rw[<-h.any];exact Bool.not_eq_true _▸z)
end
def w6:PV->Option Key
 |.int i=>some (.inl i)
 |.str x=>some (.inr x)
 |_=>none
def ju:List PV->Option (List Key)
 |[]=>some []
 |p::l=>match w6 p,ju l with
  |some k,some ks=>some (k::ks)
  |_,_=>none
def Lx:Key->PV
 |.inl i=>.int i
 |.inr x=>.str x
theorem xf{K:Frag}{F:Hp}{p:PV}{k:Key}{v:V}(h:w6 p=some k)(r:Rep K F v p):v=kV k:=by
 cases p with
 |int i=>cases h;cases Rep.bI r;rfl
 |str x=>cases h;cases Rep.cu r;rfl
 |_=>cases h
theorem uM{K:Frag}{F:Hp}:∀ {l:List PV}{ks:List Key}{xs:List V},ju l=some ks->bW K F xs l->xs=ks.map kV
 |[],ks,xs,h,r=>by cases h;exact r.jA
 |p::l,ks,xs,h,r=>by
  unfold ju at h;split at h
  ·rename_i k ks' h1 h2;cases h;obtain⟨v,ys,rfl,r1,r2⟩:=r.fJ;rw[xf h1 r1,uM h2 r2];rfl
  ·cases h
def PV.isD:PV->Bool
 |.dk _=>true
 |.dt _=>true
 |_=>false
def DLk(K:Frag)(F H:Hp)(a:Addr):PV->Prop
 |.dk l=>∃ xs,Rd H a (.dK xs)/\xs.map (·.1)=l.map (·.1)/\∀ (j:Nat) x p,xs[j]?=some x->l[j]?=some p->Rep K F x.2 p.2
 |.dt l=>∃ xs,Rd H a (.dT xs)/\xs.map (·.1)=l.map (·.1)/\∀ (j:Nat) x p,xs[j]?=some x->l[j]?=some p->Rep K F x.2 p.2
 |_=>False
theorem DLk.up{K:Frag}{F H F' H':Hp}{a:Addr}{p:PV}(o:DLk K F H a p)(sf:bf F F')(sh:bf H H'):DLk K F' H' a p:=by
 cases p with
 |dk l=>obtain⟨xs,e,r,q⟩:=o;exact⟨xs,e.same sh,r,λj x p a b=>(q j x p a b).up sf⟩
 |dt l=>obtain⟨xs,e,r,q⟩:=o;exact⟨xs,e.same sh,r,λj x p a b=>(q j x p a b).up sf⟩
 |_=>exact o.elim
theorem Own.look{K:Frag}{F H:Hp}{a:Addr}{p:PV}(o:Own K F H a p)(d:p.isD=true):DLk K F H a p:=by
 cases p with
 |dk l=>obtain⟨xs,e,r⟩:=o;exact⟨xs,.inl e,r⟩
 |dt l=>obtain⟨xs,e,r⟩:=o;exact⟨xs,.inl e,r⟩
 |_=>cases d
def aD(K:Frag):Rel PV:=λF H v p=>p.isD=true/\∃ a,v=.ref a/\DLk K F H a p
theorem aD.up{K:Frag}:UpM (aD K):=λ_ _ _ _ _ _ u ⟨h1,b,e,o⟩=>⟨h1,b,e,o.up u.ff u.hh⟩
def asD(p:PV):Option (Res PV):=if p.isD=true then some (.ok p) else none
theorem Rep.own{K:Frag}{F H:Hp}{v:V}{p:PV}(r:Rep K F v p)(s:bf F H)(d:p.isD=true):∃ a,v=.ref a/\DLk K F H a p:=by
 cases r with
 |dk h hl hr=>exact⟨_,rfl,_,h.same s,hl,hr⟩
 |dt h hl hr=>exact⟨_,rfl,_,h.same s,hl,hr⟩
 |_=>cases d
section
variable{K:Frag}{C:Cg}{ta tb tc te:TE}{f g h:Fn PV}
def zW(f:Fn PV):Fn PV:=λρ=>bnd (f ρ) asD
def iK(i:Nat):Fn PV:=λρ=>bnd (mVL i ρ) asD
theorem Ly(h:MJ K C (aF K) ta f):MJ K C (aD K) ta (zW f):=by
 intro F H σ ρ Q r R e P;refine h.run R e P λp v F1 H1 hk u a=>?_;unfold asD at hk;split at hk
 ·rename_i hd;cases hk;exact P v F1 H1 u ⟨hd,Rep.own a u.fh hd⟩
 ·cases hk
theorem jP(i:Nat):MJ K C (aD K) (o9 i) (iK i):=by
 intro F H σ ρ Q r R e P;unfold iK at e;rcases cL e with⟨z,e1,rfl⟩|⟨p,e1,hk⟩
 ·unfold mVL at e1;split at e1<;>cases e1
 ·unfold asD at hk;split at hk
  case isFalse=>cases hk
  rename_i hd;cases hk;unfold mVL at e1;split at e1
  ·rename_i q hq;cases e1;obtain⟨v,e2,e3⟩:=R.sh i _ hq;exact⟨v,e2,P v F H (Up.refl R.rb.sub) ⟨hd,Rep.own e3 R.rb.sub hd⟩⟩
  ·rename_i q hq;cases e1;obtain⟨a,e2,e3,_⟩:=R.ow i _ hq;exact⟨_,e2,P _ F H (Up.refl R.rb.sub) ⟨hd,a,rfl,e3.look hd⟩⟩
  ·cases e1
def oE:PV->PV->Option (Option PV)
 |.dk l,k=>(w6 k).map (gU l)
 |.dt l,.tup ks=>(ju ks).map (gU l)
 |_,_=>none
theorem xg{F H:Hp}{a:Addr}{d k:PV}{y:V}{r:Option PV}(s:bf F H)(o:DLk K F H a d)(ry:Rep K F y k)(e:oE d k=some r) :
  ∃ o,yj H a y o/\(r=none->o=none)/\∀ p,r=some p->∃ v,o=some v/\Rep K F v p:=by
 have inv:(∃ l,d=.dk l)\/∃ l ks,d=.dt l/\k=.tup ks:=by
  clear o ry
  cases d<;>first|exact noS e|exact .inl ⟨_,rfl⟩|(cases k<;>first|exact noS e|exact .inr ⟨_,_,rfl,rfl⟩)
 rcases inv with⟨l,rfl⟩|⟨l,ks,rfl,rfl⟩
 ·obtain⟨xs,h1,h2,h3⟩:=o;have D:=gF.of (K:=K) (F:=F) h2 h3;have e:(w6 k).map (gU l)=some r:=e;cases hk:w6 k with
  |none=>rw[hk] at e;cases e
  |some k'=>
   rw[hk] at e;cases e;cases xf hk ry;exact⟨_,.inl ⟨_,_,h1,rfl,rfl⟩,λn=>D.none n,λp q=>D.some q⟩
 ·obtain⟨xs,h1,h2,h3⟩:=o;have D:=gF.of (K:=K) (F:=F) h2 h3;have e:(ju ks).map (gU l)=some r:=e;cases hk:ju ks with
  |none=>rw[hk] at e;cases e
  |some k'=>
   rw[hk] at e;cases e;obtain⟨b,ys,rfl,hb,rr⟩:=Rep.wG ry;cases uM hk rr;exact⟨_,.inr ⟨_,_,_,h1,rfl,s _ _ hb,rfl⟩,λn=>D.none n,λp q=>D.some q⟩
def sr(d k:PV):Option (Res PV):=match oE d k with
 |some (some p)=>some (.ok p)
 |_=>none
def QL:R2:=λx y H Q=>∃ a v,x=.ref a/\yj H a y (some v)/\Q v H
theorem R0:R2M C (aD K) (aF K) (aF K) QL sr:=by
 intro F H x y a b res Q s ha hb e P;obtain⟨_,ad,rfl,o⟩:=ha;unfold sr at e;split at e
 ·rename_i p hp;cases e;obtain⟨ov,g,_,g2⟩:=xg s o hb hp;obtain⟨v,rfl,rv⟩:=g2 p rfl;exact⟨ad,v,rfl,g,P v F H (Up.refl s) rv⟩
 ·cases e
def pL(k d:PV):Option (Res PV):=(oE d k).map λr=>.ok (.bl (!r.isSome))
theorem Lz:R2M C (aF K) (aD K) (aF K) (λy x H Q=>∃ a o,x=.ref a/\yj H a y o/\Q (.bl (!o.isSome)) H) pL:=by
 intro F H x y a b res Q s ha hb e P;obtain⟨_,ad,rfl,o⟩:=hb;unfold pL at e;cases hp:oE b a with
 |none=>rw[hp] at e;cases e
 |some r=>
  rw[hp] at e;cases e;obtain⟨ov,g,g1,g2⟩:=xg s o ha hp;have es:ov.isSome=r.isSome:=by
   cases r with
   |none=>rw[g1 rfl];rfl
   |some p=>obtain⟨v,rfl,_⟩:=g2 p rfl;rfl
  exact⟨ad,ov,rfl,g,by rw[es];exact P _ F H (Up.refl s) .bl⟩
theorem DLk.isD{F H:Hp}{a:Addr}{p:PV}(o:DLk K F H a p)(d:p.isD=true):IsD H a:=by
 cases p with
 |dk l=>obtain⟨xs,e,_⟩:=o;exact .inl ⟨xs,e⟩
 |dt l=>obtain⟨xs,e,_⟩:=o;exact .inr ⟨xs,e⟩
 |_=>cases d
def su(f g h:Fn PV):Fn PV:=λρ=>bnd (f ρ) λd=>bnd (g ρ) λk=>bnd (h ρ) λx=>(oE d k).map λr=>.ok (r.getD x)
theorem tV(ha:MJ K C (aD K) ta f)(hb:MJ K C (aF K) tb g)(hc:MJ K C (aF K) tc h):MJ K C (aF K) (zH ta tb tc) (su f g h):=by
 intro F H σ ρ Q r R e P;refine ha.run R e P ?_;rintro d v F1 H1 hk u ⟨hd,a,ea,o⟩;subst ea;refine⟨a,rfl,o.isD hd,?_⟩;refine hb.run (R.up u) hk (P.later u) λk w F2 H2 hk2 u2 b=>?_;have u12:=u.trans u2;refine hc.run (R.up u12) hk2 (P.later u12) λx z F3 H3 hk3 u3 c=>?_;cases hp:oE d k with
 |none=>rw[hp] at hk3;cases hk3
 |some q=>
  rw[hp] at hk3;cases hk3;have u23:=u2.trans u3;obtain⟨ov,g,g1,g2⟩:=xg u3.fh (o.up u23.ff u23.hh) (Rep.up b u3.ff) hp;refine⟨ov,g,P _ F3 H3 (u12.trans u3) ?_⟩;cases q with
  |none=>rw[g1 rfl];exact c
  |some p=>obtain⟨v,rfl,rv⟩:=g2 p rfl;exact rv
def zX:PV->PV->PV->Option PV
 |.dk l,k,p=>match w6 k with
  |some k=>if l.length<sizeLine then some (.dk (je l k p)) else none
  |none=>none
 |.dt l,.tup ks,p=>match ju ks with
  |some k=>if l.length<sizeLine then some (.dt (je l k p)) else none
  |none=>none
 |_,_,_=>none
theorem Hv{F H:Hp}{a:Addr}{d k p d':PV}{y v:V}(s:bf F H)(o:Own K F H a d)(ry:Rep K F y k)(rv:Rep K F v p)(e:zX d k p=some d') :
  ∃ ob,tM H a y v (upd H a ob)/\Own K F (upd H a ob) a d':=by
 have inv:(∃ l,d=.dk l)\/∃ l ks,d=.dt l/\k=.tup ks:=by
  clear o ry rv
  cases d<;>first|exact noS e|exact .inl ⟨_,rfl⟩|(cases k<;>first|exact noS e|exact .inr ⟨_,_,rfl,rfl⟩)
 rcases inv with⟨l,rfl⟩|⟨l,ks,rfl,rfl⟩
 ·obtain⟨xs,h1,h2,h3⟩:=o;have D:=gF.of (K:=K) (F:=F) h2 h3;have e:(match w6 k with|some k=>if l.length<sizeLine then some (PV.dk (je l k p)) else none|none=>none)=some d':=e
  split at e
  case h_2=>cases e
  rename_i k' hk;split at e
  case isFalse=>cases e
  rename_i hz;cases e;cases xf hk ry;have D':=D.put (k:=k') rv;exact⟨_,tM.k h1 (by rw[D.len];exact hz),_,aX,D'.keys,D'.at⟩
 ·obtain⟨xs,h1,h2,h3⟩:=o;have D:=gF.of (K:=K) (F:=F) h2 h3;have e:(match ju ks with|some k=>if l.length<sizeLine then some (PV.dt (je l k p)) else none|none=>none)=some d':=e
  split at e
  case h_2=>cases e
  rename_i k' hk;split at e
  case isFalse=>cases e
  rename_i hz;cases e;obtain⟨b,ys,rfl,hb,rr⟩:=Rep.wG ry;cases uM hk rr;have D':=D.put (k:=k') rv;exact⟨_,tM.t h1 (s _ _ hb) (by rw[D.len];exact hz),_,aX,D'.keys,D'.at⟩
def xj(i:Nat)(fe fk:Fn PV):Sn:=λρ=>iz (fe ρ) λp=>match ownAt i ρ with
 |some d=>iz (fk ρ) λk=>match zX d k p with
  |some d'=>some (.nx (ρ.set i (some (.ow d'))))
  |none=>none
 |none=>none
theorem vR{i:Nat}{fe fk:Fn PV}(he:MJ K C (aF K) te fe)(hk:MJ K C (aF K) tb fk):MS K C (QF (o9 i) tb te) (xj i fe fk):=by
 intro F H σ ρ D o R e P;refine he.qN R e P λp v F1 H1 hk1 u a=>?_;split at hk1
 case h_2=>cases hk1
 rename_i d hd;obtain⟨b,g1,_⟩:=R.ow i _ (cV hd);refine⟨_,g1,hk.qN (R.up u) hk1 (P.up u.ff) λk w F2 H2 hk2 u2 rk=>?_⟩;split at hk2
 case h_2=>cases hk2
 rename_i d' hd';cases hk2;have R2:=R.up (u.trans u2);obtain⟨a',k1,k2,_⟩:=R2.ow i _ (cV hd);rw[g1] at k1;cases k1;obtain⟨ob,g,w'⟩:=Hv u2.fh k2 rk (Rep.up a u2.ff) hd';exact⟨b,_,rfl,g,P F2 _ σ (u.trans u2).ff (R2.write (cV hd) g1 w')⟩
def LC:Fn PV:=λ_=>some (.ok (.dt []))
theorem zY:MO K C KH CT:=by
 intro F H σ ρ Q r R e P;cases e;intro p hp;exact P p F _ (Up.Jp R.rb.sub hp) hp (R.rb.sub.free hp) ⟨[],aX,rfl,λj x p h=>by simp at h⟩
theorem O1:MO K C KJ LC:=by
 intro F H σ ρ Q r R e P;cases e;intro p hp;exact P p F _ (Up.Jp R.rb.sub hp) hp (R.rb.sub.free hp) ⟨[],aX,rfl,λj x p h=>by simp at h⟩
def asPair:PV->Option (PV×PV)
 |.tup [a,b]=>some (a,b)
 |_=>none
def gV:List PV->Option (List (PV×PV))
 |[]=>some []
 |p::l=>match asPair p,gV l with
  |some a,some r=>some (a::r)
  |_,_=>none
def fH(d:PV):List (PV×PV)->Option PV
 |[]=>some d
 |(k,p)::r=>match zX d k p with
  |some d'=>fH d' r
  |none=>none
theorem sy{F H:Hp}(s:bf F H):∀ {l:List PV}{ps:List (PV×PV)}{xs:List V},gV l=some ps->bW K F xs l ->
  ∃ vs:List (V×V),zG K H xs vs/\vs.length=ps.length/\∀ (j:Nat) x p,vs[j]?=some x->ps[j]?=some p->Rep K F x.1 p.1/\Rep K F x.2 p.2
 |[],ps,xs,h,r=>by
  cases h;cases r.jA;exact⟨[],⟨rfl,λj x p e=>by simp at e⟩,rfl,λj x p e=>by simp at e⟩
 |p::l,ps,xs,h,r=>by
  unfold gV at h;split at h
  ·rename_i a r' h1 h2;cases h;obtain⟨v,ys,rfl,r1,r2⟩:=r.fJ;obtain⟨vs,g1,g2,g3⟩:=sy s h2 r2;unfold asPair at h1;split at h1
   ·rename_i pa pb;cases h1;obtain⟨b,zs,rfl,hb,rr⟩:=Rep.dz r1;obtain⟨v1,zs1,rfl,q1,rr⟩:=rr.fJ;obtain⟨v2,zs2,rfl,q2,rr⟩:=rr.fJ;cases rr.jA;refine⟨(v1,v2)::vs,⟨by simp[g1.1],λj x p e1 e2=>?_⟩,by simp[g2],λj x p e1 e2=>?_⟩
    ·cases j with
     |zero=>simp at e1 e2;subst e1 e2;exact⟨b,rfl,s.tup hb⟩
     |succ j=>exact g1.2 j x p (by simpa using e1) (by simpa using e2)
    ·cases j with
     |zero=>simp at e1 e2;subst e1 e2;exact⟨q1,q2⟩
     |succ j=>exact g3 j x p (by simpa using e1) (by simpa using e2)
   ·cases h1
  ·cases h
theorem sE{F:Hp}{a:Addr}{Q:Hp->Prop}:∀ {ps:List (PV×PV)}{vs:List (V×V)}{H:Hp}{d d':PV},bf F H->F a=none->Own K F H a d->vs.length=ps.length->(∀ (j:Nat) x p,vs[j]?=some x->ps[j]?=some p->Rep K F x.1 p.1/\Rep K F x.2 p.2) ->
  fH d ps=some d'->(∀ H',bf F H'->(∀ b,b≠a->H' b=H b)->Own K F H' a d'->Q H')->yW a vs H Q
 |[],vs,H,d,d',s,hn,o,hl,hr,e,q=>by
  cases vs with
  |nil=>cases e;exact q H s (λ_ _=>rfl) o
  |cons v vs=>simp at hl
 |(k,p)::ps,vs,H,d,d',s,hn,o,hl,hr,e,q=>by
  cases vs with
  |nil=>simp at hl
  |cons v vs=>
   unfold fH at e;split at e
   case h_2=>cases e
   rename_i d1 h1;obtain⟨r1,r2⟩:=hr 0 v (k,p) rfl rfl;obtain⟨ob,g,o1⟩:=Hv s o r1 r2 h1;refine⟨_,g,sE (H:=upd H a ob) (λb u z=>by rw[aU (bY z hn)];exact s b u z) hn o1 (by simpa using hl) (λj x p e1 e2=>hr (j+1) x p (by simpa using e1) (by simpa using e2)) e λH' s' hb o'=>?_⟩
   exact q H' s' (λb hb'=>(hb b hb').trans (aU hb')) o'
def qz(d:PV)(l:List PV):Option (Res PV):=match gV l with
 |some ps=>(fH d ps).map .ok
 |none=>none
theorem O2{n:HO}{d:PV}(hd:∀ F H a,H a=some n->Own K F H a d):R1O K C (aV K) (zV K n) (qz d):=by
 intro F H x l res Q s ha e P;obtain⟨b,xs,rfl,h1,r1⟩:=ha;unfold qz at e;split at e
 case h_2=>cases e
 rename_i ps hps;cases hd':fH d ps with
 |none=>rw[hd'] at e;cases e
 |some d'=>
  rw[hd'] at e;cases e;obtain⟨vs,g1,g2,g3⟩:=sy (H:=H) s hps r1;refine⟨b,xs,vs,rfl,.inl h1,g1,λa na=>?_⟩;refine sE (F:=F) (s.trans (d9 na)) (s.free na) (hd _ _ _ aX) g2 g3 hd' λH' s' hb o'=>?_;exact P a F H' ⟨bf.refl _,λc o q=>by rw[hb c (bY q na),aU (bY q na)];exact q,λ_ _ q=>.inl q,s'⟩ na (s.free na) o'
def zZ(d:PV):PV->Option (Res PV)
 |.tup l=>qz d l
 |_=>none
theorem O3{n:HO}{d:PV}(hd:∀ F H a,H a=some n->Own K F H a d):R1O K C (aF K) (zV K n) (zZ d):=by
 intro F H x p res Q s ha e P
 match p,e with
 |.tup l,e=>
  obtain⟨b,xs,rfl,h1,r1⟩:=Rep.wG ha;have e:(match gV l with|some ps=>(fH d ps).map Res.ok|none=>none)=some res:=e
  split at e
  case h_2=>cases e
  rename_i ps hps;cases hd':fH d ps with
  |none=>rw[hd'] at e;cases e
  |some d'=>
   rw[hd'] at e;cases e;obtain⟨vs,g1,g2,g3⟩:=sy (H:=H) s hps r1;refine⟨b,xs,vs,rfl,.inr (s _ _ h1),g1,λa na=>?_⟩;refine sE (F:=F) (s.trans (d9 na)) (s.free na) (hd _ _ _ aX) g2 g3 hd' λH' s' hb o'=>?_;exact P a F H' ⟨bf.refl _,λc o q=>by rw[hb c (bY q na),aU (bY q na)];exact q,λ_ _ q=>.inl q,s'⟩ na (s.free na) o'
theorem Hw{F H:Hp}{a:Addr}(h:H a=some (.dK [])):Own K F H a (.dk []):=⟨[],h,rfl,λj x p e=>by simp at e⟩
end
section
variable{K:Frag}{C:Cg}{ta tb:TE}{f g:Fn PV}
theorem Hy(ha:MJ K C (aD K) ta f)(hb:MJ K C (aF K) tb g):MJ K C (aF K) (Hj ta tb) (m2 sr f g):=au (r2:=QL) aD.up R0 ha hb
end
section
variable{X:Cx}
theorem JB{k:Nat}(hr:fX k X.A):OpR X (compareOp .NotIn) (λy x H Q=>∃ a o,x=.ref a/\yj H a y o/\Q (.bl (!o.isSome)) H):=by
 intro pins s σ H x y v u Q I rx ry h;obtain⟨a,o,rfl,g,q⟩:=h;cases ry;exact Oe (tD hr) I g rx λs3 I3=>⟨.bl (!o.isSome),H,I3,rfl,q⟩
theorem xm{k:Nat}(hr:fX k X.A)(hc:X.calm=true):qQ X (.type "dict") (zV X.K (.dK [])):=FW hc hr.units (.inl rfl)
end
section
variable{X:Cx}{k:Nat}{N:List Str}{scope:Scope}{cl:List (Str×Addr)}{C:Addr}{s2:Shared}{H2:Hp}{fp:List Addr}
theorem LK{X:Cx}{k:Nat}{o i:Expr}{pos:Pos}{td ty:TE}(hr:fX k X.A)(ho:PE X o td)(hi:PE X i ty)(hs:Og i):PE X (.Subscript o i pos) (Hj td ty):=Hk (tD hr) ho hi hs
theorem JC{o i:Expr}{pos:Pos}{td ty:TE}(hr:fX k X.A)(ho:PE (X.comp N scope cl C s2 H2 fp) o td)(hi:PE (X.comp N scope cl C s2 H2 fp) i ty)(hs:Og i):PE (X.comp N scope cl C s2 H2 fp) (.Subscript o i pos) (Hj td ty):=Hk (tD hr) ho hi hs
theorem uN{X:Cx}{k:Nat}{o e f:Expr}{apos cpos:Pos}{td ty tx:TE}(hr:fX k X.A)(ho:PE X o td)(he:PE X e ty)(hf:PE X f tx)(m:M2 X o "get" apos e f cpos):PE X (.Call (.Attribute o "get" apos) [e,f] [] cpos) (zH td ty tx):=Ci (tD hr) ho he hf m
theorem FZ{o e f:Expr}{apos cpos:Pos}{td ty tx:TE}(hr:fX k X.A)(ho:PE (X.comp N scope cl C s2 H2 fp) o td)(he:PE (X.comp N scope cl C s2 H2 fp) e ty)(hf:PE (X.comp N scope cl C s2 H2 fp) f tx)(m:M2 (X.comp N scope cl C s2 H2 fp) o "get" apos e f cpos):PE (X.comp N scope cl C s2 H2 fp) (.Call (.Attribute o "get" apos) [e,f] [] cpos) (zH td ty tx):=Ci (tD hr) ho he hf m
end
section
def CR(a b c:Int):Prop:=0<=a/\a<2^30/\-(2^30)<=b/\b<2^30/\0<c/\c<2^30
noncomputable instance(a b c:Int):Decidable (CR a b c):=inferInstanceAs (Decidable (_/\_))
theorem uA{acc:Array Value}{n:Nat}(h:ItemsOf (λi v=>∃ t,v=.int (0+(i:Nat)*1) t) acc n):Vals ((List.range n).map λi=>V.int (i:Nat)) acc.toList:=by
 obtain⟨hs,hv⟩:=h;have go:∀ (l:List Value) (k:Nat),(∀ (i:Nat) v,l[i]?=some v->∃ t,v=Value.int (((k+i:Nat):Int)) t)->Vals ((List.range' k l.length).map λi=>V.int (i:Nat)) l:=by
  intro l;induction l with
  |nil=>intro k _;exact .nil
  |cons v l ih=>
   intro k h;rw[ZaP,List.range'_succ,Zai];obtain⟨t,e⟩:=h 0 v rfl;refine .cons ⟨t,by rw[e];rfl⟩ (ih (k+1) λi v hv=>?_)
   obtain⟨t,e⟩:=h (i+1) v (by simpa using hv)
   exact⟨t,by rw[e];congr 2;omega⟩
 have:=go acc.toList 0 λi v e=>by
  obtain⟨t,e2⟩:=hv i v (by simpa using e)
  exact⟨t,by rw[e2];congr 1;omega⟩
 rwa [Za9,hs,<-List.range_eq_range'] at this
end
section
variable{K:Frag}{C:Cg}{ta:TE}{f:Fn PV}
def LQ:PV->Option (Res PV)
 |.int i=>some (.ok (.int (Builtin.bitNot i)))
 |_=>none
theorem R4(ha:MJ K C (aF K) ta f):MJ K C (aF K) (tUn (rU λi=>.int (Builtin.bitNot i)) ta) (m1 LQ f):=by
 intro F H σ ρ Q r R e P;refine ha.run R e P λp v F1 H1 hk u a=>?_
 match p,hk with
 |.int i,hk=>
  cases Rep.bI a;cases hk;exact⟨i,rfl,P _ F1 H1 u .int⟩
def QM(_ j:Int):Prop:=0<j/\j.natAbs.log2<9000
def QQ(_ j:Int):Bool:=decide (0<j/\j.natAbs.log2<9000)
theorem LR{X:Cx}:OpR X (binaryOp .FloorDiv) (rI QM λi j=>.int (i/j)):=_root_.L2.opI λi j _ _ _ _ _ hc q=>by
 have h1:(0:Int)<j:=hc.1;exact floordiv_int (by omega) (by rw[Int.fdiv_eq_ediv_of_nonneg i (by omega)];exact q) (.inl (PyProof.noPylong_of_log2 hc.2))
def z6:=MP.opI QQ λi j=>.int (i/j)
theorem R5:R2M C (aF K) (aF K) (aF K) (rI QM λi j=>.int (i/j)) z6:=yQ (λ_ _ h=>of_decide_eq_true (p:=0<_/\_) h) λ_ _ _=>.int
end
def New(H F' H':Hp)(S:Addr->Prop):Prop:=∀ b,S b->H b=none/\F' b=none/\∃ o,H' b=some o/\∀ ys,o≠.tup ys
def MD(K:Frag)(C:Cg)(te:TE)(f:Fn PV):Prop:=
 ∀ F H σ ρ Q r,RE K C.toCf F H σ ρ->f ρ=some r->Pr C F (λp=>∀ v F' H' S,Up F H F' H'->Dp K F' H' S v p->New H F' H' S->Q v H') r->te σ H Q
def spD(K:Frag)(XR:Hp->Value->Option Addr->PV->Prop)(m:List PV->Option (Res PV)):Sp:=λvs H Q E=>∃ ps F r,bf F H/\bW K F vs ps/\m ps=some r/\match r with
 |.ok p=>∀ v F' H' S,Up F H F' H'->Dp K F' H' S v p->New H F' H' S->Q v H'
 |.ex z=>∀ e d F' H',Up F H F' H'->XR F' e d z->E e d H'
section
variable{K:Frag}{C:Cg}{te:TE}{F F1 F2 H H1 H2:Hp}{σ:St}{ρ:Rho}{D:Ends}{t u:TS}{f g:Sn}{o:Out}{S:Addr->Prop}{v:V}{p:PV}
theorem New.up(n:New H F1 H1 S)(u:Up F1 H1 F2 H2):New H F2 H2 S:=λb q=>by
 obtain⟨n0,n1,o,n2,n3⟩:=n b q;refine⟨n0,?_,o,u.hh _ _ n2,n3⟩;cases e:F2 b with
 |none=>rfl
 |some o'=>
  rcases u.fr b o' e with z|z|⟨ys,z⟩
  ·rw[n1] at z;cases z
  ·rw[n2] at z;cases z
  ·subst z;have w:=u.fh _ _ e;rw[u.hh _ _ n2] at w;cases w;exact absurd rfl (n3 ys)
theorem Dp.stay(d:Dp K F1 H1 S v p)(u:Up F1 H1 F2 H2):Dp K F2 H2 S v p:=d.up u.ff (λb o _ q=>u.hh b o q) λb ys q=>u.hh b _ q
def CW(F H:Hp)(S:Addr->Prop):Hp:=λb=>@ite _ (S b\/∃ ys,H b=some (.tup ys)) (Classical.propDecidable _) (H b) (F b)
theorem qC{b:Addr}(h:S b\/∃ ys,H b=some (.tup ys)):CW F H S b=H b:=@if_pos _ (Classical.propDecidable _) h _ _ _
theorem mH{b:Addr}(h:¬(S b\/∃ ys,H b=some (.tup ys))):CW F H S b=F b:=@if_neg _ (Classical.propDecidable _) h _ _ _
theorem uO(s:bf F H):bf F (CW F H S):=λb o e=>by
 by_cases h:S b\/∃ ys,H b=some (.tup ys)
 ·rw[qC h];exact s b o e
 ·rw[mH h];exact e
theorem CZ(s:bf F H):bf (CW F H S) H:=λb o e=>by
 by_cases h:S b\/∃ ys,H b=some (.tup ys)
 ·rw[qC h] at e;exact e
 ·rw[mH h] at e;exact s b o e
theorem Dc(d:Dp K F H S v p)(s:bf F H):Rep K (CW F H S) v p:=
 d.seen (uO s) (λb o q e=>by rw[qC (.inl q)];exact e) λb ys e=>by rw[qC (.inr ⟨ys,e⟩)];exact e
theorem O4(u:Up F H F1 H1)(n:New H F1 H1 S):Up F H (CW F1 H1 S) H1 where
 ff:=u.ff.trans (uO u.fh)
 hh:=u.hh
 fr:=λb o e=>by
  by_cases h:S b\/∃ ys,H1 b=some (.tup ys)
  ·rw[qC h] at e;rcases h with h|⟨ys,h⟩
   ·exact .inr (.inl (n b h).1)
   ·rw[h] at e;cases e;exact .inr (.inr ⟨ys,rfl⟩)
  ·rw[mH h] at e;exact u.fr b o e
 fh:=CZ u.fh
theorem Ma{fe:Fn PV}(h:MD K C te fe):MJ K C (aF K) te fe:=λF H σ ρ Q r R e P=>
 h F H σ ρ Q r R e (Pr.mono P (bf.refl _) λp q v F' H' S u d n=>q v _ H' (O4 u n) (Dc d u.fh))
def yX(fe:Fn PV):Fn PV:=λρ=>bnd (fe ρ) λp=>match p with
 |.lst l=>if l.all PV.still=true then some (.ok (.lst l)) else none
 |_=>none
theorem QR{fe:Fn PV}(h:MO K C te fe):MD K C te (yX fe):=by
 intro F H σ ρ Q r R e P;rcases cL e with⟨z,e1,rfl⟩|⟨p,e1,hk⟩
 ·exact h F H σ ρ Q _ R e1 P
 ·split at hk
  ·rename_i l;split at hk
   ·rename_i hl;cases hk;refine h F H σ ρ Q _ R e1 λa F' H' u n1 n2 w=>?_;obtain⟨xs,e2,e3⟩:=w;refine P _ F' H' (λb=>b=a) u ?_ ?_
    ·refine .lst (S:=λ_ _=>False) e2 rfl (λj b q=>q.elim) (λi j b q=>q.elim) e3.1 λj x p e4 e5=>.fr (e3.2 j x p e4 e5) ?_;exact ZaZ.mp hl p (ZaI e5)
    ·rintro b rfl;exact⟨n1,n2,_,e2,λys q=>by cases q⟩
   ·cases hk
  ·cases hk
theorem Hz{t:TA}{fe:Fn (List PV)}{m:List PV->Option (Res PV)}(h:MA K C t fe):MD K C (wA (spD K C.XR m) [] C.E t) (bU m fe):=by
 intro F H σ ρ Q r R e P;refine h.run R e P λl xs F1 H1 hk u a=>?_;refine⟨l,F1,r,u.fh,by rw[ZaM];exact a,hk,?_⟩
 cases r with
 |ok p=>exact λv F' H' S u' d n=>P v F' H' S (u.trans u') d λb q=>⟨u.hh.free (n b q).1,(n b q).2⟩
 |ex z=>exact λe d F' H' u' x=>P e d F' H' (u.trans u').ff (R.rb.up (u.trans u')) x
def Dps(K:Frag)(F H:Hp)(S:Nat->Addr->Prop)(xs:List V)(l:List PV):Prop:=
 xs.length=l.length/\(∀ i j b,S i b->S j b->i=j)/\∀ (j:Nat) x p,xs[j]?=some x->l[j]?=some p->Dp K F H (S j) x p
def yl(i:Nat)(ρ:Rho):Option PV:=match ρ[i]? with
 |some (some (.dp p))=>some p
 |_=>none
theorem kJ{i:Nat}{p:PV}(h:yl i ρ=some p):ρ[i]?=some (some (.dp p)):=by
 unfold yl at h;split at h
 ·rename_i q hq;cases h;exact hq
 ·cases h
theorem RE.UL{C:Cf}(R:RE K C F H σ ρ)(i:Nat)(u:Up F H F1 H1)(d:Dp K F1 H1 S v p)(n:New H F1 H1 S)(nw:C.nw):RE K C F1 H1 (σ.set i (some v)) (ρ.set i (some (.dp p))) where
 rb:=R.rb.up u
 len:=by simp[R.len]
 sh:=λj q e=>by
  rcases get_set e with⟨e1,e2⟩|⟨e1,e2⟩
  ·cases e2
  ·obtain⟨w,e3,e4⟩:=(R.up u).sh j q e2;exact⟨w,by rw[Zad e1];exact e3,e4⟩
 ow:=λj q e=>by
  rcases get_set e with⟨e1,e2⟩|⟨e1,e2⟩
  ·cases e2
  ·obtain⟨w,e3,e4⟩:=(R.up u).ow j q e2;exact⟨w,by rw[Zad e1];exact e3,e4⟩
 dis:=λj k q q' b e e' f f'=>by
  rcases get_set e with⟨e1,e2⟩|⟨e1,e2⟩
  ·cases e2
  ·rcases get_set e' with⟨e1',e2'⟩|⟨e1',e2'⟩
   ·cases e2'
   ·rw[Zad e1] at f;rw[Zad e1'] at f';exact R.dis j k q q' b e2 e2' f f'
 dd:=by
  obtain⟨P,d0⟩:=R.dd;have d1:=d0.up u;refine⟨λj b=>if j=i then S b else P j b,λj b q=>?_,λj k b a1 a2=>?_,λj k q b z e f=>?_,λj q e=>?_⟩
  ·by_cases hj:j=i
   ·simp only[hj,Za7] at q;obtain⟨c1,c2,c3⟩:=n b q;exact⟨c2,c3,nw,R.rb.u6 c1⟩
   ·simp only[hj,ZaT] at q;exact d1.own j b q
  ·by_cases hj:j=i<;>by_cases hk:k=i
   ·rw[hj,hk]
   ·simp only[hj,hk,Za7,ZaT] at a1 a2;obtain⟨_,⟨o,c,_⟩,_⟩:=d0.own k b a2;rw[(n b a1).1] at c;cases c
   ·simp only[hj,hk,Za7,ZaT] at a1 a2;obtain⟨_,⟨o,c,_⟩,_⟩:=d0.own j b a1;rw[(n b a2).1] at c;cases c
   ·simp only[hj,hk,ZaT] at a1 a2;exact d0.dis j k b a1 a2
  ·rcases get_set e with⟨e1,e2⟩|⟨e1,e2⟩
   ·cases e2
   ·rw[Zad e1] at f;by_cases hj:j=i
    ·simp only[hj,Za7] at z;exact R.apart (n b z).1 k q e2 f
    ·simp only[hj,ZaT] at z;exact d0.ow j k q b z e2 f
  ·rcases get_set e with⟨e1,e2⟩|⟨e1,e2⟩
   ·subst e1;cases e2;have:=bT e;refine⟨v,by rw[ZaE (by rw[R.len];simpa using this)],?_⟩
    simp only[Za7];exact d
   ·obtain⟨w,e3,e4⟩:=d1.dp j q e2;refine⟨w,by rw[Zad e1];exact e3,?_⟩
    simp only[Za0 e1,ZaT];exact e4
def HB(i:Nat)(fe:Fn PV):Sn:=λρ=>iz (fe ρ) λp=>some (.nx (ρ.set i (some (.dp p))))
theorem O5{i:Nat}{fe:Fn PV}(nw:C.nw)(h:MD K C te fe):MS K C (ye te (uY i)) (HB i fe):=by
 intro F H σ ρ D o R e P;rcases gf e with⟨z,e1,rfl⟩|⟨p,e1,hk⟩
 ·exact h F H σ ρ _ _ R e1 P
 ·cases hk;exact h F H σ ρ _ _ R e1 λv F1 H1 S u d n=>P F1 H1 _ u.ff (R.UL i u d n nw)
theorem RE.R6{C:Cf}(R:RE K C F H σ ρ){i:Nat}(e:ρ[i]?=some (some (.dp p))):∃ S v,σ[i]?=some (some v)/\Dp K F H S v p/\(∀ b,S b->F b=none/\(∃ o,H b=some o/\∀ ys,o≠.tup ys)/\C.H0 b=none)/\RE K C (CW F H S) H σ (ρ.set i (some (.sh p))):=by
 obtain⟨P,d⟩:=R.dd;obtain⟨v,e1,e2⟩:=d.dp i p e;have li:=bT e;have sf:bf F (CW F H (P i)):=uO R.rb.sub;refine⟨P i,v,e1,e2,λb q=>⟨(d.own i b q).1,(d.own i b q).2.1,(d.own i b q).2.2.2⟩,⟨⟨CZ R.rb.sub,R.rb.keep,λb o q=>?_,R.rb.ios⟩,by simp[R.len],λj q f=>?_,λj q f=>?_,λj k q q' b f f' g g'=>?_,?_⟩⟩
 ·by_cases h:P i b\/∃ ys,H b=some (.tup ys)
  ·rw[qC h] at q;rcases h with h|⟨ys,h⟩
   ·exact .inr (.inl (d.own i b h).2.2.2)
   ·rw[h] at q;cases q;exact .inr (.inr ⟨ys,rfl⟩)
  ·rw[mH h] at q;exact R.rb.new b o q
 ·rcases get_set f with⟨f1,f2⟩|⟨f1,f2⟩
  ·subst f1;cases f2;exact⟨v,e1,Dc e2 R.rb.sub⟩
  ·obtain⟨w,g1,g2⟩:=R.sh j q f2;exact⟨w,g1,g2.up sf⟩
 ·rcases get_set f with⟨f1,f2⟩|⟨f1,f2⟩
  ·cases f2
  ·obtain⟨b,g1,g2,g3,g4⟩:=R.ow j q f2;refine⟨b,g1,g2.up sf λ_ z=>z,?_,g4⟩;rw[mH]
   ·exact g3
   ·rintro(z|⟨ys,z⟩)
    ·exact d.ow i j q b z f2 g1
    ·exact g2.Cj z
 ·rcases get_set f with⟨f1,f2⟩|⟨f1,f2⟩
  ·cases f2
  ·rcases get_set f' with⟨f1',f2'⟩|⟨f1',f2'⟩
   ·cases f2'
   ·exact R.dis j k q q' b f2 f2' g g'
 ·refine⟨λj b=>j≠i/\P j b,λj b z=>?_,λj k b a1 a2=>d.dis j k b a1.2 a2.2,λj k q b z f g=>?_,λj q f=>?_⟩
  ·obtain⟨c1,c2,c3⟩:=d.own j b z.2;refine⟨?_,c2,c3⟩;rw[mH]
   ·exact c1
   ·rintro(y|⟨ys,y⟩)
    ·exact z.1 (d.dis j i b z.2 y)
    ·obtain⟨o,c4,c5⟩:=c2;rw[y] at c4;cases c4;exact c5 ys rfl
  ·rcases get_set f with⟨f1,f2⟩|⟨f1,f2⟩
   ·cases f2
   ·exact d.ow j k q b z.2 f2 g
  ·rcases get_set f with⟨f1,f2⟩|⟨f1,f2⟩
   ·cases f2
   ·obtain⟨w,g1,g2⟩:=d.dp j q f2;refine⟨w,g1,(g2.up sf (λ_ _ _ q=>q) λ_ _ q=>q).mono λb z=>⟨Za0 f1,z⟩⟩
def HD(fe:Fn PV):Sn:=λρ=>iz (fe ρ) λp=>some (.rd p)
theorem O6{fe:Fn PV}(h:MD K C te fe):MS K C (IV te) (HD fe):=by
 intro F H σ ρ D o R e P;rcases gf e with⟨z,e1,rfl⟩|⟨p,e1,hk⟩
 ·exact h F H σ ρ _ _ R e1 P
 ·cases hk;exact h F H σ ρ _ _ R e1 λv F1 H1 S u d n=>P v F1 H1 S u.ff (R.rb.up u) d λb q=>⟨(n b q).2.1,(n b q).2.2,R.rb.u6 (n b q).1⟩
def uP(i:Nat):Sn:=λρ=>match yl i ρ with
 |some p=>some (.rd p)
 |none=>none
theorem Mf(i:Nat):MS K C (IV (o9 i)) (uP i):=by
 intro F H σ ρ D o R e P;unfold uP at e;split at e
 ·rename_i p hp;cases e;obtain⟨S,v,e1,e2,e3,_⟩:=R.R6 (kJ hp);exact⟨_,e1,P v F H S (bf.refl _) R.rb e2 e3⟩
 ·cases e
end
section
variable{K:Frag}{C:Cg}{te:TE}{F F1 F2 H H1 H2:Hp}{σ:St}{ρ:Rho}{D:Ends}{u:TS}{f g:Sn}{o:Out}{S:Addr->Prop}{v:V}{p:PV}
theorem De{S:Nat->Addr->Prop}{S4:Addr->Prop}{ys:List V}{acc:List PV}{q:PV}{D:Addr}{F4 H4 H1:Hp}(h:Dps K F4 H4 S ys acc)(rm:∀ j b,S j b->j<ys.length/\b≠D/\H1 b=none/\F4 b=none/\∃ o,H4 b=some o/\∀ zs,o≠.tup zs)(eD:H4 D=some (.lst ys))(d:Dp K F4 H4 S4 v q)
  (n4:∀ b,S4 b->(F4 b=none/\∃ o,H4 b=some o/\∀ zs,o≠.tup zs)/\H1 b=none)(nd:∀ b,S4 b->b≠D)(ap:∀ j b,S j b->¬S4 b) :
  Dps K F4 (upd H4 D (.lst (ys++[v]))) (λj b=>if j=ys.length then S4 b else S j b) (ys++[v]) (acc++[q])/\(∀ j b,(if j=ys.length then S4 b else S j b)->j<(ys++[v]).length/\b≠D/\H1 b=none/\F4 b=none/\∃ o,upd H4 D (.lst (ys++[v])) b=some o/\∀ zs,o≠.tup zs):=by
 have tups:∀ b zs,H4 b=some (.tup zs)->upd H4 D (.lst (ys++[v])) b=some (.tup zs):=λb zs e=>by
  rw[aU (λz=>by subst z;rw[eD] at e;cases e)];exact e
 refine⟨⟨by simp[h.1],λi j b a1 a2=>?_,λj x p e1 e2=>?_⟩,λj b a=>?_⟩
 ·by_cases hi:i=ys.length<;>by_cases hj:j=ys.length
  ·rw[hi,hj]
  ·simp only[hi,hj,Za7,ZaT] at a1 a2;exact absurd a1 (ap j b a2)
  ·simp only[hi,hj,Za7,ZaT] at a1 a2;exact absurd a2 (ap i b a1)
  ·simp only[hi,hj,ZaT] at a1 a2;exact h.2.1 i j b a1 a2
 ·by_cases hj:j<ys.length
  ·rw[Zat hj] at e1;rw[Zat (by rw[<-h.1];exact hj)] at e2
   simp only[show ¬j=ys.length by omega,ZaT]
   exact(h.2.2 j x p e1 e2).up (bf.refl _) (λb o z e=>by rw[aU (rm j b z).2.1];exact e) tups
  ·rw[Zaz (by omega)] at e1
   rw[Zaz (by rw[<-h.1];omega)] at e2
   have ej:j=ys.length:=by
    have:=bT e1;simp at this;omega
   rw[ej,Nat.sub_self] at e1;rw[ej,h.1,Nat.sub_self] at e2;cases e1;cases e2;simp only[ej,Za7];exact d.up (bf.refl _) (λb o z e=>by rw[aU (nd b z)];exact e) tups
 ·by_cases hj:j=ys.length
  ·simp only[hj,Za7] at a;obtain⟨⟨c1,o,c2,c3⟩,c4⟩:=n4 b a;exact⟨by simp;omega,nd b a,c4,c1,o,by rw[aU (nd b a)];exact c2,c3⟩
  ·simp only[hj,ZaT] at a;obtain⟨c0,c1,c2,c3,o,c4,c5⟩:=rm j b a;exact⟨by simp;omega,c1,c2,c3,o,by rw[aU c1];exact c4,c5⟩
theorem Mi{wi:TI}{it:Fn (List PV)}{fr:List (Option Nat)}{gt:TG}{tg:PV->Rho->Option Rho}{T:List Nat}{tc:TT}{tst:Fn Bool}{el:Fn PV}(hi:MIH K C wi it)(hg:MG K C gt tg)(hT:Wr T tg)(ht:MT K C tc tst)(he:MD K C te el)
  (hfr:T.all (λj=>fr[j]?==some none)=true:=by rfl):MD K C (u5 wi fr gt tc te) (gG it fr tg tst el):=by
 intro F H σ ρ Q r R e P;rcases cL e with⟨z,e1,rfl⟩|⟨l,e1,hk⟩
 ·exact hi F H σ ρ _ _ R e1 P
 split at hk
 case isFalse=>cases hk
 rename_i hlen;refine hi F H σ ρ _ _ R e1 λJ F1 H1 u hJ D hD=>?_;have R1:=R.up u;obtain⟨Rb,no⟩:=R1.block fr;have hD0:C.H0 D=none:=R1.rb.u6 hD;have hFD:F1 D=none:=u.fh.free hD;have hρ:∀ (j:Nat),j∈T->(frR fr ρ)[j]?=some none:=λj hj=>by
  have:=ZaZ.mp hfr j hj;unfold frR;rw[Zac,show fr[j]?=some none by simpa using this]
  rfl
 refine⟨λi m σ' H'=>∃ F' ys acc S,m=l.length-i/\i<=l.length/\bf F1 F'/\(∀ b o,F' b=some o->F1 b=some o\/Frz H1 b o)/\bf H1 H'/\H' D=some (.lst ys)/\F' D=none/\Dps K F' H' S ys acc/\(∀ j b,S j b->j<ys.length/\b≠D/\H1 b=none/\F' b=none/\∃ o,H' b=some o/\∀ zs,o≠.tup zs)/\acc.length<=i /\
   RE K C.toCf F' H' σ' (frR fr ρ)/\bnd (d7 tg tst el (frR fr ρ) (l.drop i)) (λr=>some (.ok (.lst (acc++r))))=some r,
  ⟨l.length,F1,[],[],λ_ _=>False,by simp,Zbg _,bf.refl _,λ_ _ q=>.inl q,d9 hD,aX,hFD,⟨rfl,λ_ _ _ q=>q.elim,λj x p e=>by simp at e⟩,λ_ _ q=>q.elim,Zag _,Rb.other hFD hD0 no,by rw[Za8];exact hk⟩,?_⟩
 rintro i m σ' H' ⟨F',ys,acc,S,rfl,hil,s1,fr1,sH,eD,nD,ra,rm,hacc,R',e'⟩;by_cases hlt:i<l.length
 case neg=>
  have ei:i=l.length:=by omega
  subst ei;rw[List.drop_length] at e';have e':some (Res.ok (PV.lst (acc++[])))=some r:=e';rw[ZaM] at e';cases e';refine .inl ⟨hJ.stop F' H' s1 R'.rb.sub sH,P (.ref D) F' H' (λb=>b=D\/∃ j,S j b) (u.trans ⟨s1,sH,fr1,R'.rb.sub⟩) (.lst eD (.inl rfl) (λj b q=>⟨.inr ⟨j,q⟩,(rm j b q).2.1⟩) ra.2.1 ra.1 ra.2.2) ?_⟩;rintro b (rfl|⟨j,q⟩)
  ·exact⟨u.hh.free hD,nD,_,eD,λzs q=>by cases q⟩
  ·obtain⟨_,_,c1,c2,c3⟩:=rm j b q;exact⟨u.hh.free c1,c2,c3⟩
 refine .inr ⟨hJ.go i F' H' hlt s1 R'.rb.sub sH,λσ2 H2=>∃ F2 ys acc S,bf F1 F2/\(∀ b o,F2 b=some o->F1 b=some o\/Frz H1 b o)/\bf H1 H2/\H2 D=some (.lst ys)/\F2 D=none/\Dps K F2 H2 S ys acc/\(∀ j b,S j b->j<ys.length/\b≠D/\H1 b=none/\F2 b=none/\∃ o,H2 b=some o/\∀ zs,o≠.tup zs)/\acc.length<=i+1 /\
   RE K C.toCf F2 H2 σ2 (frR fr ρ)/\bnd (d7 tg tst el (frR fr ρ) (l.drop (i+1))) (λr=>some (.ok (.lst (acc++r))))=some r,
  λσ2 H2 ⟨F2,ys,acc,S,z⟩=>⟨l.length-(i+1),by omega,F2,ys,acc,S,rfl,hlt,z⟩,λx H'' y=>?_⟩
 obtain⟨F'',p,u2,ep,rx⟩:=hJ.yld i F' H' x H'' hlt s1 R'.rb.sub sH y;have ed:l.drop i=p::l.drop (i+1):=by
  rw[Za1 hlt];rw[Zab hlt] at ep;rw[Zaa ep]
 rw[ed,d7] at e';split at e'
 ·cases e'
 rename_i ρ1 h1;obtain⟨w1,w2,w3⟩:=hT p _ ρ1 h1;have no1:=w3 no;have weak:∀ (j:Nat) s,(frR fr ρ)[j]?=some (some s)->ρ1[j]?=some (some s):=λj s ej=>by
  rw[w2 j λz=>by rw[hρ j z] at ej;cases ej];exact ej
 refine hg F'' H'' σ' (frR fr ρ) x p ρ1 _ (R'.up u2) rx h1 λσ1 R1'=>?_;have stay:∀ {F3 H3:Hp},Up F' H' F3 H3->bf F1 F3/\(∀ b o,F3 b=some o->F1 b=some o\/Frz H1 b o)/\bf H1 H3/\H3 D=some (.lst ys)/\F3 D=none/\Dps K F3 H3 S ys acc/\(∀ j b,S j b->j<ys.length/\b≠D/\H1 b=none/\F3 b=none/\∃ o,H3 b=some o/\∀ zs,o≠.tup zs):=λ{F3 H3} u3=>by
  refine⟨s1.trans u3.ff,λb o q=>?_,sH.trans u3.hh,u3.hh _ _ eD,?_,⟨ra.1,ra.2.1,λj x p c1 c2=>(ra.2.2 j x p c1 c2).stay u3⟩,λj b q=>?_⟩
  ·rcases u3.fr b o q with z|z
   ·exact fr1 b o z
   ·exact .inr (z.imp (λz=>sH.free z) id)
  ·cases q:F3 D with
   |none=>rfl
   |some o=>
    rcases u3.fr D o q with z|z|⟨ys,z⟩
    ·rw[nD] at z;cases z
    ·rw[eD] at z;cases z
    ·subst z;have w:=u3.fh _ _ q;rw[u3.hh _ _ eD] at w;cases w
  ·obtain⟨c0,c1,c2,c3,c4⟩:=rm j b q;have nn:New H1 F' H' (S j):=λb q=>(rm j b q).2.2;exact⟨c0,c1,(nn.up u3) b q⟩
 have Pl:∀ {F3 H3:Hp},Up F' H' F3 H3->∀ {z:PV},r=.ex z->PX C F3 z:=λ{F3 H3} u3 {z} ez=>by
  subst ez;exact PX.up P (u.ff.trans (s1.trans u3.ff))
 rcases cL e' with⟨z,e2,rfl⟩|⟨r0,e2,e3⟩
 ·
  rcases cL e2 with⟨z',e4,ez⟩|⟨b,e4,e5⟩
  ·cases ez;exact ht F'' H'' σ1 ρ1 _ _ R1' e4 (Pl u2 rfl)
  ·refine ht F'' H'' σ1 ρ1 _ _ R1' e4 λF3 H3 u3=>?_;have u23:=u2.trans u3;cases b with
   |false=>
    rw[Zap (by decide)] at e5 ⊢
    obtain⟨a1,a2,a3,a4,a5,a6,a7⟩:=stay u23;exact⟨F3,ys,acc,S,a1,a2,a3,a4,a5,a6,a7,by omega,(R1'.up u3).weak w1.symm weak,by rw[e5];rfl⟩
   |true=>
    rw[Zan rfl] at e5 ⊢;rcases cL e5 with⟨z',e6,ez⟩|⟨q,e6,e7⟩
    ·cases ez;exact he F3 H3 σ1 ρ1 _ _ (R1'.up u3) e6 (Pl u23 rfl)
    ·refine he F3 H3 σ1 ρ1 _ _ (R1'.up u3) e6 λv F4 H4 S4 u4 rv n4=>?_;have u24:=u23.trans u4;obtain⟨_,_,_,_,_,_,a7s⟩:=stay u23;obtain⟨a1,a2,a3,a4,a5,a6,a7⟩:=stay u24;rcases cL e7 with⟨z',e8,ez⟩|⟨rr,e8,e9⟩
     ·cases ez;obtain⟨b1,b2⟩:=De a6 a7 a4 rv (λb z=>⟨(n4 b z).2,((sH.trans u23.hh).free (n4 b z).1)⟩) (λb z=>by intro e;subst e;have c:=(n4 b z).1;rw[u23.hh _ _ eD] at c;cases c) (λj b z z'=>by obtain⟨_,_,_,_,o,c,_⟩:=a7s j b z;have c':=(n4 b z').1;rw[c] at c';cases c')
      refine⟨ys,a4,by rw[a6.1];omega,F4,ys++[v],acc++[q],_,a1,a2,qu hD a3,aX,a5,b1,b2,by simp;omega,((R1'.up (u3.trans u4)).other a5 hD0 no1).weak w1.symm weak,?_⟩
      rw[e8];rfl
     ·cases e9
 ·rcases cL e2 with⟨z',e4,ez⟩|⟨b,e4,e5⟩
  ·cases ez
  ·refine ht F'' H'' σ1 ρ1 _ _ R1' e4 λF3 H3 u3=>?_;have u23:=u2.trans u3;cases b with
   |false=>
    rw[Zap (by decide)] at e5 ⊢
    obtain⟨a1,a2,a3,a4,a5,a6,a7⟩:=stay u23;exact⟨F3,ys,acc,S,a1,a2,a3,a4,a5,a6,a7,by omega,(R1'.up u3).weak w1.symm weak,by rw[e5];exact e3⟩
   |true=>
    rw[Zan rfl] at e5 ⊢;rcases cL e5 with⟨z',e6,ez⟩|⟨q,e6,e7⟩
    ·cases ez
    ·refine he F3 H3 σ1 ρ1 _ _ (R1'.up u3) e6 λv F4 H4 S4 u4 rv n4=>?_;have u24:=u23.trans u4;obtain⟨_,_,_,_,_,_,a7s⟩:=stay u23;obtain⟨a1,a2,a3,a4,a5,a6,a7⟩:=stay u24;rcases cL e7 with⟨z',e8,ez⟩|⟨rr,e8,e9⟩
     ·cases ez
     ·cases e9;obtain⟨b1,b2⟩:=De a6 a7 a4 rv (λb z=>⟨(n4 b z).2,((sH.trans u23.hh).free (n4 b z).1)⟩) (λb z=>by intro e;subst e;have c:=(n4 b z).1;rw[u23.hh _ _ eD] at c;cases c) (λj b z z'=>by obtain⟨_,_,_,_,o,c,_⟩:=a7s j b z;have c':=(n4 b z').1;rw[c] at c';cases c')
      refine⟨ys,a4,by rw[a6.1];omega,F4,ys++[v],acc++[q],_,a1,a2,qu hD a3,aX,a5,b1,b2,by simp;omega,((R1'.up (u3.trans u4)).other a5 hD0 no1).weak w1.symm weak,?_⟩
      rw[e8];show some (Res.ok (PV.lst (acc++[q]++rr)))=some r
      rw[List.append_assoc];exact e3
theorem HF{wi:TI}{it:Fn (List PV)}{fr:List (Option Nat)}{gt:TG}{tg:PV->Rho->Option Rho}{T:List Nat}{tc:TT}{tst:Fn Bool}{el:Fn PV}(hi:MI K C wi it)(hg:MG K C gt tg)(hT:Wr T tg)(ht:MT K C tc tst)(he:MD K C te el)
  (hfr:T.all (λj=>fr[j]?==some none)=true:=by rfl):MD K C (u5 wi fr gt tc te) (gG it fr tg tst el):=Mi hi.h hg hT ht he hfr
theorem Dp.cN{l:List PV}(d:Dp K F H S v (.lst l)):∃ (T:Nat->Addr->Prop) (a:Addr) (xs:List V),v=.ref a/\H a=some (.lst xs)/\S a/\(∀ j b,T j b->S b/\b≠a)/\Dps K F H T xs l:=by
 cases d with
 |fr h st=>cases st
 |lst h hp hs dj hl hr=>exact⟨_,_,_,rfl,h,hp,hs,hl,dj,hr⟩
theorem RE.R7{C:Cf}(R:RE K C F H σ ρ){P:Nat->Addr->Prop}(d:RD K C F H σ ρ P){i:Nat}(e:ρ[i]?=some (some (.dp p)))(e1:σ[i]?=some (some v)){a:Addr}{ob:HO}(ha:P i a)(ho:∀ ys,ob≠.tup ys){p':PV}{S':Addr->Prop}
  (hd:Dp K F (upd H a ob) S' v p')(hS:∀ b,S' b->P i b\/(F b=none/\(∃ o,H b=some o/\∀ ys,o≠.tup ys)/\C.nw/\C.H0 b=none/\(∀ j,¬P j b)/\∀ (j:Nat) q,ρ[j]?=some (some (.ow q))->σ[j]?≠some (some (.ref b)))) :
  RE K C F (upd H a ob) σ (ρ.set i (some (.dp p'))):=by
 obtain⟨c1,⟨oa,c2,c3⟩,c4,c5⟩:=d.own i a ha;have hio:¬C.io a:=λz=>(R.rb.ios a z).2 c5;refine⟨⟨λb o q=>by rw[aU (λz=>by subst z;rw[c1] at q;cases q)];exact R.rb.sub b o q,λb o q z=>by rw[aU (λy=>by subst y;rw[c5] at q;cases q)];exact R.rb.keep b o q z,R.rb.new,λb z=>?_⟩,by simp[R.len],λj q f=>?_,λj q f=>?_,λj k q q' b f f' g g'=>?_,?_⟩
 ·refine⟨?_,(R.rb.ios b z).2⟩;rw[aU (λy=>by subst y;exact hio z)];exact(R.rb.ios b z).1
 ·rcases get_set f with⟨f1,f2⟩|⟨f1,f2⟩
  ·cases f2
  ·exact R.sh j q f2
 ·rcases get_set f with⟨f1,f2⟩|⟨f1,f2⟩
  ·cases f2
  ·obtain⟨b,g1,g2,g3,g4⟩:=R.ow j q f2;have nb:b≠a:=λz=>by subst z;exact d.ow i j q b ha f2 g1
   refine⟨b,g1,?_,g3,g4⟩;cases q with
   |lst l=>obtain⟨xs,k1,k2⟩:=g2;exact⟨xs,by rw[aU nb];exact k1,k2⟩
   |dk l=>obtain⟨xs,k1,k2⟩:=g2;exact⟨xs,by rw[aU nb];exact k1,k2⟩
   |dt l=>obtain⟨xs,k1,k2⟩:=g2;exact⟨xs,by rw[aU nb];exact k1,k2⟩
   |_=>exact g2.elim
 ·rcases get_set f with⟨f1,f2⟩|⟨f1,f2⟩
  ·cases f2
  ·rcases get_set f' with⟨f1',f2'⟩|⟨f1',f2'⟩
   ·cases f2'
   ·exact R.dis j k q q' b f2 f2' g g'
 ·have up:∀ b o,H b=some o->(∀ ys,o≠.tup ys)->∃ o',upd H a ob b=some o'/\∀ ys,o'≠.tup ys:=λb o q z=>by
   by_cases h:b=a
   ·subst h;exact⟨ob,aX,ho⟩
   ·exact⟨o,by rw[aU h];exact q,z⟩
  refine⟨λj b=>if j=i then S' b else P j b,λj b z=>?_,λj k b a1 a2=>?_,λj k q b z f g=>?_,λj q f=>?_⟩
  ·by_cases hj:j=i
   ·simp only[hj,Za7] at z;rcases hS b z with w|⟨w1,⟨o,w2,w2'⟩,w3,w4,_⟩
    ·obtain⟨k1,⟨o,k2,k3⟩,k4⟩:=d.own i b w;exact⟨k1,up b o k2 k3,k4⟩
    ·exact⟨w1,up b o w2 w2',w3,w4⟩
   ·simp only[hj,ZaT] at z;obtain⟨k1,⟨o,k2,k3⟩,k4⟩:=d.own j b z;exact⟨k1,up b o k2 k3,k4⟩
  ·by_cases hj:j=i<;>by_cases hk:k=i
   ·rw[hj,hk]
   ·simp only[hj,hk,Za7,ZaT] at a1 a2;rcases hS b a1 with w|⟨_,_,_,_,w,_⟩
    ·rw[hj];exact d.dis i k b w a2
    ·exact absurd a2 (w k)
   ·simp only[hj,hk,Za7,ZaT] at a1 a2;rcases hS b a2 with w|⟨_,_,_,_,w,_⟩
    ·rw[hk];exact d.dis j i b a1 w
    ·exact absurd a1 (w j)
   ·simp only[hj,hk,ZaT] at a1 a2;exact d.dis j k b a1 a2
  ·rcases get_set f with⟨f1,f2⟩|⟨f1,f2⟩
   ·cases f2
   ·by_cases hj:j=i
    ·simp only[hj,Za7] at z;rcases hS b z with w|⟨_,_,_,_,_,w⟩
     ·exact d.ow i k q b w f2 g
     ·exact w k q f2 g
    ·simp only[hj,ZaT] at z;exact d.ow j k q b z f2 g
  ·rcases get_set f with⟨f1,f2⟩|⟨f1,f2⟩
   ·subst f1;cases f2;refine⟨v,e1,?_⟩;simp only[Za7];exact hd
   ·obtain⟨w,g1,g2⟩:=d.dp j q f2;refine⟨w,g1,?_⟩;simp only[Za0 f1,ZaT];refine g2.up (bf.refl _) (λb o z q=>?_) λb ys q=>?_
    ·rw[aU (λy=>by subst y;exact f1 (d.dis i j b ha z))];exact q
    ·rw[aU (λy=>by subst y;rw[c2] at q;cases q;exact c3 ys rfl)];exact q
end
section
variable{K:Frag}{F H:Hp}{o:Out}
theorem Dps.put{T:Nat->Addr->Prop}{xs:List V}{l:List PV}(h:Dps K F H T xs l){j:Nat}{b:Addr}{ob:HO}(hb:T j b)(nt:∀ ys,H b≠some (.tup ys)){x:V}{q:PV}(ex:xs[j]?=some x)(d:Dp K F (upd H b ob) (T j) x q):Dps K F (upd H b ob) T xs (l.set j q):=by
 refine⟨by simp[h.1],h.2.1,λk y r e1 e2=>?_⟩
 rcases get_set e2 with⟨f1,f2⟩|⟨f1,f2⟩
 ·subst f1;subst f2;rw[ex] at e1;cases e1;exact d
 ·exact(h.2.2 k y r e1 f2).up (bf.refl _) (λc o z e=>by rw[aU (λw=>by subst w;exact f1 (h.2.1 j k c hb z))];exact e) λc ys e=>by rw[aU (λw=>by subst w;exact nt ys e)];exact e
end
def Df:Option Out->Option (Res PV)
 |some (.rd p)=>some (.ok p)
 |some (.ex z)=>some (.ex z)
 |_=>none
section
variable{K:Frag}{XR:Hp->Value->Option Addr->PV->Prop}{N:List Str}{vs:List V}{H:Hp}{Q:VK}{E:XK}{t:TS}{b:Sn}{m:List PV->Option (Res PV)}
theorem HJ{k n:Nat}(hk:N.length=k+n)(hm:∀ ps r,m ps=some r->ps.length=k/\Df (b (startR ps n))=some r)(h:spD K XR0 m vs H Q E)(hS:∀ (io:Addr->Prop) (H0 F0:Hp),(∀ a,¬io a)->MS K (C0 io H0 F0) t b) :
  t { nx:=λ_ H'=>Q .non H',rt:=Q } (start N vs) H:=by
 obtain⟨ps,F,r,s,rp,e,P⟩:=h;obtain⟨hl,e⟩:=hm ps r e;have R:=wX (E:=E0) (N:=N) (n:=n) s rp (by rw[rp.1,hl];exact hk)
 have up:∀ {F' H':Hp},bf F F'->RB ⟨λ_=>False,True,H,F,E0⟩ F' H'->Up F H F' H':=λs' rb=>⟨s',λc o q=>rb.keep c o q id,rb.new,rb.sub⟩;have M:=hS (λ_=>False) H F (λ_ h=>h);cases ho:b (startR ps n) with
 |none=>rw[ho] at e;cases e
 |some o=>
  rw[ho] at e;refine M F H _ _ _ o R ho ?_;cases o with
  |rd p=>cases e;exact λv F' H' S s' rb d n=>P v F' H' S (up s' rb) d λb q=>⟨(n b q).2.2,(n b q).1,(n b q).2.1⟩
  |ex z=>exact λ_ _ _ _ _ _ x=>x.elim
  |nx ρ=>cases e
  |rt p=>cases e
  |ro p=>cases e
  |bk ρ=>cases e
  |ct ρ=>cases e
theorem HN(h:spD K XR m vs H Q E){k:Nat}(hm:∀ ps r,m ps=some r->ps.length=k):vs.length=k:=by
 obtain⟨ps,F,r,s,rp,e,P⟩:=h;rw[rp.1];exact hm ps r e
end
end L2.MP
namespace L2
open PySem PySem.Spec PyProof PyProof.Rows
namespace MP
end MP
def mJ:HO->Prop
 |.dK _=>True
 |.dT _=>True
 |_=>False
section
variable{X:Cx}{pins:List (Addr×Obj)}{σ:St}{H:Hp}{s:Shared}{a:Addr}{u:HO}{raw:Obj}
theorem mJ.mut(hu:mJ u)(e:H a=some u):Mut (H a):=by
 rw[e];cases u<;>first|trivial|exact hu.elim
theorem R8(I:Inv X pins σ H s)(e:H a=some u)(hu:mJ u):∃ raw,s.heap.get? a=some raw:=by
 have:=I.hok a u e;cases u with
 |dK kvs=>obtain⟨_,_,_,_,o,es,ep,h1,_⟩:=this;exact⟨o,h1⟩
 |dT kvs=>obtain⟨_,_,_,_,o,es,ep,h1,_⟩:=this;exact⟨o,h1⟩
 |_=>exact hu.elim
theorem Inv.hold(I:Inv X pins σ H s)(e:H a=some u)(hu:mJ u):∃ raw,s.heap.get? a=some raw/\Inv X pins σ (upd H a (.frz raw u)) s:=by
 obtain⟨raw,hr⟩:=R8 I e hu;refine⟨raw,hr,I.write (t':=s.toks) (h':=s.heap) (hu.mut e) (.inl rfl) (λb o _ q=>q) ⟨raw,hr⟩ ⟨hr,?_⟩⟩;refine(I.hok a u e).stay (λb o _ q=>q) (λb q=>?_) λb xs q=>?_
 ·rw[aU (λz=>by subst z;rw[e] at q;cases q;exact hu)];exact q
 ·rw[aU (λz=>by subst z;rw[e] at q;cases q;exact hu)];exact q
theorem Inv.loose(I:Inv X pins σ H s)(e:H a=some (.frz raw u))(hu:mJ u)(h0:∀ o v,X.H₀ a≠some (.frz o v)):Inv X pins σ (upd H a u) s where
 ok:=I.ok
 os:=I.os
 bare:=I.bare
 base:={
  keep:=I.base.keep
  slot:=I.base.slot
  free:=λb o q n hx=>by
   have:=I.base.free b o q n hx;rw[aU (λz=>by subst z;rw[e] at this;cases this)];exact this
  there:=I.base.there
  tups:=λb xs q=>by
   have:=I.base.tups b xs q;rw[aU (λz=>by subst z;rw[e] at this;cases this)];exact this
  frzs:=λb o v q=>by
   rw[aU (λz=>by subst z;exact h0 o v q)];exact I.base.frzs b o v q
  tbls:=λb ps q=>by
   obtain⟨more,r⟩:=I.base.tbls b ps q;exact⟨more,by rw[aU (λz=>by subst z;rw[e] at r;cases r)];exact r⟩ }
 loc:=I.loc
 cell:=I.cell
 free:=by rw[aU (λz=>by have:=I.free;rw[z,e] at this;cases this)];exact I.free
 freeC:=λx c q=>by
  have:=I.freeC x c q;rw[aU (λz=>by subst z;rw[e] at this;cases this)];exact this
 pin:=λp hp=>by
  obtain⟨p1,p2,p3⟩:=I.pin p hp;exact⟨p1,by rw[aU (λz=>by rw[z,e] at p2;cases p2)];exact p2,p3⟩
 hok:=λb o q=>by
  have ho:∀ c y,H c=some (.own y)->upd H a u c=some (.own y):=λc y r=>by rw[aU (λz=>by subst z;rw[e] at r;cases r)];exact r
  have ht:∀ c xs,H c=some (.tup xs)->upd H a u c=some (.tup xs):=λc xs r=>by rw[aU (λz=>by subst z;rw[e] at r;cases r)];exact r
  by_cases hb:b=a
  ·subst hb;rw[aX] at q;cases q;exact(I.hok b _ e).2.stay (λ_ _ _ q=>q) (λc r=>ho c b r) ht
  ·rw[aU hb] at q;exact(I.hok b o q).stay (λ_ _ _ q=>q) (λc r=>ho c b r) ht
 len:=I.len
def Ends.loose(D:Ends)(a:Addr)(raw:Obj)(u:HO):Ends where
 nx:=λσ H=>H a=some (.frz raw u)/\D.nx σ (upd H a u)
 bk:=λσ H=>H a=some (.frz raw u)/\D.bk σ (upd H a u)
 ct:=λσ H=>H a=some (.frz raw u)/\D.ct σ (upd H a u)
 rt:=λv H=>H a=some (.frz raw u)/\D.rt v (upd H a u)
def Mj(i:Nat)(t:TE):TE:=λσ H Q=>∃ a u,σ[i]?=some (some (.ref a))/\mJ u/\(((∃ raw,H a=some (.frz raw u))/\t σ H Q)\/(H a=some u/\∀ raw,t σ (upd H a (.frz raw u)) λv H'=>H' a=some (.frz raw u)/\Q v (upd H' a u)))
theorem O7{e:Expr}{t:TE}(i:Nat)(h:PE X e t):PE X e (Mj i t):=by
 intro pins s σ H Q I q;obtain⟨a,u,_,hu,⟨_,q⟩|⟨e',q⟩⟩:=q
 ·exact h pins s σ H Q I q
 ·have h0:∀ o v,X.H₀ a≠some (.frz o v):=λo v z=>by
   have:=I.base.frzs a o v z;rw[e'] at this;cases this;exact hu
  obtain⟨raw,_,I2⟩:=I.hold e' hu;refine thn (h pins s σ _ _ I2 (q raw)) λw s' ⟨v,H',I',rv,e2,r⟩=>⟨v,_,I'.loose e2 hu h0,rv,r⟩
end
def Itd(a:Addr)(raw:Obj)(kvs:List (Key×V)):It:=
 ⟨λi H=>H a=some (.frz raw (.dK kvs))/\i<kvs.length,λi H x H'=>H'=H/\∃ kv,kvs[i]?=some kv/\x=kV kv.1,λi H=>H a=some (.frz raw (.dK kvs))/\i=kvs.length⟩
theorem O8{P:Program}{w:World}{k:Key}{u:Value}(h:(di P w).is k u=true):RelV (kV k) u:=by
 rcases dG h with⟨i,t,rfl,rfl⟩|⟨x,t,rfl,rfl⟩
 ·exact⟨t,rfl⟩
 ·exact⟨t,rfl⟩
theorem z7{P:Program}{w:World}{H:Hp}{h:Heap}{a:Addr}{raw:Obj}{kvs:List (Key×V)}(ok:HOk P w H h)(e:H a=some (.frz raw (.dK kvs))){es:Array DictEntry}{ep:Nat}(hd:raw.data=.dict es ep):(a==sysModules)=false/\∃ vs,KV kvs vs/\h.DictAt (di P w) a vs ep:=by
 obtain⟨hr,_,hs,vs,kv,o,es',ep',h1,h2,h3,h4⟩:=(show d8 P w H h a (.frz raw (.dK kvs)) from ok a _ e);rw[hr] at h1;cases h1;rw[hd] at h3;cases h3;exact⟨hs,vs,kv,raw,es,hr,h2,hd,h4⟩
theorem JD{P:Program}{w:World}{K:Frag}{tg:Expr}(a it:Addr)(raw:Obj)(kvs:List (Key×V)){es:Array DictEntry}{ep:Nat}(hd:raw.data=.dict es ep) :
  Turn P w K tg (Itd a raw kvs) [it] it (λi h=>h.IsKeyIter it a i kvs.length ep) where
 mem:=by simp
 obj:=λi h st b hb=>by
  have e:b=it:=by simpa using hb
  subst e;obtain⟨o,e,c,d⟩:=st;exact⟨o,e,λv z=>by rw[d] at z;cases z⟩
 keep:=λi h h' st k=>st.at λo q=>k it (by simp) o q
 item:=by
  intro X hP hw hK hc i pins s σ H E I hf st hg;subst hP hw hK;obtain⟨e,hi⟩:=hg;obtain⟨f0,f1,f2,f3,f4,f5⟩:=hf it (by simp)
  obtain⟨_,vs,kv,dd⟩:=z7 I.hok e hd;have hl:=kv.length;have hne:a≠it:=λz=>by subst z;rw[e] at f0;cases f0
  have W:=Walks.dictKeys (prog:=X.prog) (w:=X.w) (A:=X.A) (knd:=di X.prog X.w) (I.ok.hd hc) it a hne vs ep;refine W.item i s _ _ (by omega) ⟨by rw[<-hl];exact st,dd⟩ λv h' tk hv st' kk=>?_
  obtain⟨k,x,hx,hk⟩:=hv;have I1:Inv X pins σ H { s with heap:=h',toks:=tk }:=I.turned (λb o hb e=>kk b o (by simpa using hb) e) f0 f1 f3 f4 f5
  obtain⟨o,eo,cc,dd'⟩:=id st'.1;obtain⟨p,hp⟩:∃ p,kvs[i]?=some p:=⟨_,Zab hi⟩;have ek:p.1=k:=by
   have h1:(kvs.map (·.1))[i]?=some p.1:=by rw[Zac,hp];rfl
   have h2:(vs.map (·.1))[i]?=some k:=by rw[Zac,hx];rfl
   rw[kv.keys,h2] at h1;exact(Zaa h1).symm
  refine⟨_,rfl,Bw (s:={ s with heap:=h',toks:=tk }) eo cc dd' (by decide) ⟨kV p.1,H,I1,by rw[ek];exact O8 hk,⟨rfl,p,hp,rfl⟩,by rw[hl];exact st'.1,λb hb=>(hf b hb).1⟩⟩
 done:=by
  intro X hP hw hK hc i pins s σ H E I hf st hg;subst hP hw hK;obtain⟨e,hi⟩:=hg;obtain⟨f0,f1,f2,f3,f4,f5⟩:=hf it (by simp)
  obtain⟨_,vs,kv,dd⟩:=z7 I.hok e hd;have hl:=kv.length;have hne:a≠it:=λz=>by subst z;rw[e] at f0;cases f0
  have W:=Walks.dictKeys (prog:=X.prog) (w:=X.w) (A:=X.A) (knd:=di X.prog X.w) (I.ok.hd hc) it a hne vs ep;subst hi;refine W.done s _ _ ⟨by rw[<-hl];exact st,dd⟩ λh' tk kk=>⟨rfl,I.turned (λb o hb e=>kk b o (by simpa using hb) e) f0 f1 f3 f4 f5⟩
 self:=λA i s Q E st h=>wpAny_pyIter_keyiter st h
def QT(tl:TE):TI:=λσ H R=>tl σ H λx H1=>∃ a raw kvs,x=.ref a/\H1 a=some (.frz raw (.dK kvs))/\R (Itd a raw kvs) H1
theorem O9{X:Cx}{tg l:Expr}{tl:TE}(hl:PE X l tl):PI X tg l (QT tl):=by
 intro pins s σ H R I h;refine thn (hl pins s σ H _ I h) ?_;rintro v s1 ⟨x,H1,I1,r1,q1⟩;obtain⟨a,raw,kvs,e,ha,q⟩:=q1;subst e;cases r1;obtain⟨es,ep,hd⟩:∃ es ep,raw.data=.dict es ep:=by
  obtain⟨hr,_,hs,vs,kv,o,es',ep',h1,h2,h3,h4⟩:=(show d8 X.prog X.w H1 s1.heap a (.frz raw (.dK kvs)) from I1.hok a _ ha);rw[hr] at h1;cases h1;exact⟨_,_,h3⟩
 obtain⟨hs,vs,kv,dd⟩:=z7 I1.hok ha hd;refine wpAny_pyIter_dict hs dd ?_;refine⟨s1.heap.objs.size,[s1.heap.objs.size],_,_,H1,rfl,I1.kept (t':=s1.toks) λb o e=>Zaf _ e,JD a _ raw kvs hd,⟨_,Zau _ rfl,rfl,by rw[kv.length];rfl⟩,λb hb=>?_,q⟩
 have e:b=s1.heap.objs.size:=by simpa using hb
 subst e;exact I1.IW (Zag _) (I1.hok.fresh (Zag _))
end L2
namespace L2.MP
open PySem PySem.Spec PyProof.Rows
structure Sw(F F':Hp)(a:Addr)(u:HO):Prop where
 ne:∀ b,b≠a->F' b=F b
 l:Rd F a u
 r:Rd F' a u
 d:mJ u
section
variable{K:Frag}{F F' H H':Hp}{a:Addr}{u:HO}{v:V}{p:PV}
theorem Sw.other(w:Sw F F' a u){b:Addr}{o:HO}(e:F b=some o)(h1:¬mJ o)(h2:∀ raw x,mJ x->o≠.frz raw x):F' b=some o:=by
 rw[w.ne b λz=>?_]
 ·exact e
 ·subst z;rcases w.l with q|⟨raw,q⟩
  ·rw[e] at q;cases q;exact h1 w.d
  ·rw[e] at q;cases q;exact h2 raw u w.d rfl
theorem Sw.rd(w:Sw F F' a u){b:Addr}{o:HO}(h:Rd F b o)(ho:mJ o):Rd F' b o:=by
 by_cases hb:b=a
 ·subst hb;have:o=u:=by
   rcases h with h|⟨r,h⟩<;>rcases w.l with q|⟨r',q⟩<;>rw[h] at q<;>cases q
   ·rfl
   ·exact ho.elim
   ·exact w.d.elim
   ·rfl
  rw[this];exact w.r
 ·rcases h with h|⟨r,h⟩
  ·exact .inl (by rw[w.ne b hb];exact h)
  ·exact .inr ⟨r,by rw[w.ne b hb];exact h⟩
theorem Sw.sq(w:Sw F F' a u){b:Addr}{xs:List V}(h:SqL K F b xs):SqL K F' b xs:=by
 rcases h with(h|⟨o,h⟩)|h
 ·exact .inl (.inl (w.other h (λz=>z) λ_ _ _ z=>by cases z))
 ·exact .inl (.inr ⟨o,w.other h (λz=>z) λ_ x hx z=>by cases z;exact hx⟩)
 ·exact .inr h
theorem Rep.sw(w:Sw F F' a u)(h:Rep K F v p):Rep K F' v p:=by
 induction h with
 |non=>exact .non
 |bl=>exact .bl
 |int=>exact .int
 |str=>exact .str
 |ty=>exact .ty
 |tup h hl _ ih=>exact .tup (w.other h (λz=>z) λ_ _ _ z=>by cases z) hl ih
 |lst h hl _ ih=>exact .lst (w.sq h) hl ih
 |dk h hl _ ih=>exact .dk (w.rd h trivial) hl ih
 |dt h hl _ ih=>exact .dt (w.rd h trivial) hl ih
 |exc nm h hd hl _ ih=>exact .exc nm (w.other h (λz=>z) λ_ _ _ z=>by cases z) (w.other hd (λz=>z) λ_ _ _ z=>by cases z) hl ih
 |exc0 nm h=>exact .exc0 nm (w.other h (λz=>z) λ_ _ _ z=>by cases z)
theorem bW.sw{xs:List V}{l:List PV}(w:Sw F F' a u)(h:bW K F xs l):bW K F' xs l:=⟨h.1,λj x p a b=>(h.2 j x p a b).sw w⟩
theorem Own.sw{b:Addr}(w:Sw F F' a u)(e:H' b=H b)(h:Own K F H b p):Own K F' H' b p:=by
 cases p with
 |lst l=>obtain⟨xs,q,r⟩:=h;exact⟨xs,by rw[e];exact q,r.sw w⟩
 |dk l=>obtain⟨xs,q,r,s⟩:=h;exact⟨xs,by rw[e];exact q,r,λj x p a b=>(s j x p a b).sw w⟩
 |dt l=>obtain⟨xs,q,r,s⟩:=h;exact⟨xs,by rw[e];exact q,r,λj x p a b=>(s j x p a b).sw w⟩
 |_=>exact h.elim
theorem Dp.sw{P:Addr->Prop}(w:Sw F F' a u)(wH:Sw H H' a u)(h:Dp K F H P v p):(∀ b,P b->b≠a)->Dp K F' H' P v p:=by
 induction h with
 |fr h st=>exact λ_=>.fr (h.sw w) st
 |lst h hp hs dj hl _ ih=>exact λn=>.lst (by rw[wH.ne _ (n _ hp)];exact h) hp hs dj hl λj x p e1 e2=>ih j x p e1 e2 λb q=>n b (hs j b q).1
 |tup h hs dj hl _ ih=>exact λn=>.tup (wH.other h (λz=>z) λ_ _ _ z=>by cases z) hs dj hl λj x p e1 e2=>ih j x p e1 e2 λb q=>n b (hs j b q)
 |dk h hp hs dj hl _ ih=>exact λn=>.dk (by rw[wH.ne _ (n _ hp)];exact h) hp hs dj hl λj x p e1 e2=>ih j x p e1 e2 λb q=>n b (hs j b q).1
 |dt h hp hs dj hl _ ih=>exact λn=>.dt (by rw[wH.ne _ (n _ hp)];exact h) hp hs dj hl λj x p e1 e2=>ih j x p e1 e2 λb q=>n b (hs j b q).1
theorem RE.sw{C C':Cf}{σ:St}{ρ:Rho}(w:Sw F F' a u)(wH:Sw H H' a u)(fa:F a≠none)(hio:C'.io=C.io)(hnw:C'.nw=C.nw)(h0:∀ b,b≠a->C'.H0 b=C.H0 b)(rb:RB C' F' H')(R:RE K C F H σ ρ):RE K C' F' H' σ ρ where
 rb:=rb
 len:=R.len
 sh:=λi p e=>let⟨v,e1,r⟩:=R.sh i p e;⟨v,e1,r.sw w⟩
 ow:=λi p e=>by
  obtain⟨b,e1,e2,e3,e4⟩:=R.ow i p e;have nb:b≠a:=λz=>by subst z;exact fa e3
  exact⟨b,e1,e2.sw w (wH.ne b nb),by rw[w.ne b nb];exact e3,by rw[hio,hnw,h0 b nb];exact e4⟩
 dis:=R.dis
 dd:=by
  obtain⟨P,d⟩:=R.dd;have nb:∀ i b,P i b->b≠a:=λi b q z=>by subst z;exact fa (d.own i b q).1
  refine⟨P,λi b q=>?_,d.dis,d.ow,λi p e=>?_⟩
  ·obtain⟨c1,⟨o,c2,c3⟩,c4,c5⟩:=d.own i b q;exact⟨by rw[w.ne b (nb i b q)];exact c1,⟨o,by rw[wH.ne b (nb i b q)];exact c2,c3⟩,by rw[hnw];exact c4,by rw[h0 b (nb i b q)];exact c5⟩
  ·obtain⟨v,e1,e2⟩:=d.dp i p e;exact⟨v,e1,e2.sw w wH (nb i)⟩
end
def fZ(G:Hp)(a:Addr)(raw:Obj)(u:HO):Hp:=λb=>@ite _ (b=a/\G a=some u) (Classical.propDecidable _) (some (.frz raw u)) (G b)
theorem mK{G:Hp}{a b:Addr}{raw:Obj}{u:HO}(h:b≠a):fZ G a raw u b=G b:=@if_neg _ (Classical.propDecidable _) (λz=>h z.1) _ _ _
theorem uQ{G:Hp}{a:Addr}{raw:Obj}{u:HO}(h:G a=some u):fZ G a raw u a=some (.frz raw u):=@if_pos _ (Classical.propDecidable _) ⟨rfl,h⟩ _ _ _
theorem sG{G:Hp}{a:Addr}{raw:Obj}{u:HO}(h:G a≠some u):fZ G a raw u a=G a:=@if_neg _ (Classical.propDecidable _) (λz=>h z.2) _ _ _
def Uh(F:Hp)(σ:St)(i:Nat):Prop:=∃ a raw u,σ[i]?=some (some (.ref a))/\F a=some (.frz raw u)/\mJ u
def MOh(K:Frag)(C:Cg)(i:Nat)(te:TE)(f:Fn PV):Prop:=
 ∀ F H σ ρ Q r,RE K C.toCf F H σ ρ->Uh F σ i->f ρ=some r->Pr C F (λp=>∀ a F' H',Up F H F' H'->H a=none->F' a=none->Own K F' H' a p->Q (.ref a) H') r->te σ H Q
section
variable{K:Frag}
theorem Pa{io:Addr->Prop}{H0 F0 F H:Hp}{σ:St}{ρ:Rho}{a:Addr}{u:HO}{raw:Obj}(R:RE K (C0 io H0 F0).toCf F H σ ρ)(fa:F a=some u)(hu:mJ u) :
  RE K (C0 io (fZ H0 a raw u) (fZ F0 a raw u)).toCf (upd F a (.frz raw u)) (upd H a (.frz raw u)) σ ρ/\H a=some u:=by
 have ha:=R.rb.sub _ _ fa;have w:Sw F (upd F a (.frz raw u)) a u:=⟨λb hb=>aU hb,.inl fa,.inr ⟨raw,aX⟩,hu⟩;have wH:Sw H (upd H a (.frz raw u)) a u:=⟨λb hb=>aU hb,.inl ha,.inr ⟨raw,aX⟩,hu⟩;have nt:∀ ys,u≠.tup ys:=λys z=>by subst z;exact hu
 have rb2:RB (C0 io (fZ H0 a raw u) (fZ F0 a raw u)).toCf (upd F a (.frz raw u)) (upd H a (.frz raw u)):=by
  refine⟨λb o q=>?_,λb o q n=>?_,λb o q=>?_,λb q=>?_⟩
  ·by_cases hb:b=a
   ·subst hb;rw[aX] at q ⊢;exact q
   ·rw[aU hb] at q ⊢;exact R.rb.sub b o q
  ·by_cases hb:b=a
   ·subst hb;rw[aX];by_cases hh:H0 b=some u
    ·have q:fZ H0 b raw u b=some o:=q;rw[uQ hh] at q;exact q
    ·have q:fZ H0 b raw u b=some o:=q;rw[sG hh] at q;have:=R.rb.keep b o q n;rw[ha] at this;exact absurd (q.trans this.symm) hh
   ·have q:fZ H0 a raw u b=some o:=q;rw[mK hb] at q;rw[aU hb];exact R.rb.keep b o q n
  ·by_cases hb:b=a
   ·subst hb;rw[aX] at q;cases q;rcases R.rb.new b u fa with z|z|⟨ys,z⟩
    ·exact .inl (uQ z)
    ·refine .inr (.inl ?_);show fZ H0 b raw u b=none
     rw[sG (by rw[show H0 b=none from z];intro y;cases y)];exact z
    ·exact absurd z (nt ys)
   ·rw[aU hb] at q;rcases R.rb.new b o q with z|z|z
    ·exact .inl ((mK hb).trans z)
    ·exact .inr (.inl ((mK hb).trans z))
    ·exact .inr (.inr z)
  ·obtain⟨q1,q2⟩:=R.rb.ios b q;refine⟨?_,?_⟩
   ·by_cases hb:b=a
    ·subst hb;rw[aX];intro z;cases z
    ·rw[aU hb];exact q1
   ·show fZ H0 a raw u b≠none
    by_cases hb:b=a
    ·subst hb;by_cases hh:H0 b=some u
     ·rw[uQ hh];intro z;cases z
     ·rw[sG hh];exact q2
    ·rw[mK hb];exact q2
 have R2:RE K (C0 io (fZ H0 a raw u) (fZ F0 a raw u)).toCf (upd F a (.frz raw u)) (upd H a (.frz raw u)) σ ρ:=RE.sw (C:=(C0 io H0 F0).toCf) w wH (by rw[fa];intro z;cases z) rfl rfl (λb hb=>mK hb) rb2 R
 exact⟨R2,ha⟩
end
def xn(l:List (Key×PV)):List PV:=l.map λkv=>Lx kv.1
def z8:PV->Option (Res (List PV))
 |.dk l=>some (.ok (xn l))
 |_=>none
def Ui(K:Frag)(C:Cg)(i:Nat)(wi:TI)(f:Fn (List PV)):Prop:=
 ∀ F H σ ρ R' r,RE K C.toCf F H σ ρ->Uh F σ i->f ρ=some r->Pr C F (λl=>∀ J F' H',Up F H F' H'->ItR K J F' l->R' J H') r->wi σ H R'
section
variable{K:Frag}{C:Cg}{te:TE}{f:Sn}{F H:Hp}{σ:St}{ρ:Rho}{D:Ends}{o:Out}
theorem Pb{k:Key}:Rep K F (kV k) (Lx k):=by
 cases k with
 |inl i=>exact .int
 |inr z=>exact .str
theorem Ml(i:Nat):Ui K C i (QT (o9 i)) (m1 z8 (mV i)):=by
 intro F H σ ρ R' r R hh e P;rcases cL e with⟨z,e1,rfl⟩|⟨p,e1,hk⟩
 ·unfold mV at e1;split at e1
  ·cases e1
  ·cases e1
 obtain⟨a,raw,u,ev,fa,hu⟩:=hh;have hp:ρ[i]?=some (some (.sh p)):=by
  unfold mV at e1;split at e1
  ·rename_i q hq;cases e1;exact hq
  ·cases e1
 match p,hk with
 |.dk l,hk=>
  cases hk;obtain⟨v,ev',rv⟩:=R.sh i _ hp;rw[ev] at ev';cases ev';cases rv with
  |@dk _ xs _ h hl hr=>
   have hx:u=.dK xs:=by
    rcases h with h|⟨o,h⟩
    ·rw[fa] at h;cases h
    ·rw[fa] at h;cases h;rfl
   subst hx;have len:xs.length=l.length:=by have:=congrArg List.length hl;simpa using this
   refine⟨_,ev,a,raw,xs,rfl,R.rb.sub _ _ fa,P _ F H (Up.refl R.rb.sub) ⟨λF' H' s s'=>?_,λj F' H' hj s s'=>?_,λj F' H' x H'' hj s s' y=>?_⟩⟩
   ·exact⟨s' _ _ (s _ _ fa),by unfold xn;rw[List.length_map];exact len.symm⟩
   ·refine⟨s' _ _ (s _ _ fa),?_⟩;unfold xn at hj;rw[List.length_map] at hj;omega
   ·obtain⟨rfl,kv,hkv,rfl⟩:=y;have hl2:(l.map (·.1))[j]?=some kv.1:=by rw[<-hl,Zac,hkv];rfl
    refine⟨F',Lx kv.1,Up.refl s',?_,Pb⟩;unfold xn;rw[Zac] at hl2 ⊢;cases q:l[j]? with
    |none=>rw[q] at hl2;cases hl2
    |some w=>
     rw[q] at hl2;show some (Lx w.1)=some (Lx kv.1)
     rw[show w.1=kv.1 from Zaa hl2]
theorem Dg{wi:TI}{it:Fn (List PV)}{fr:List (Option Nat)}{gt:TG}{tg:PV->Rho->Option Rho}{T:List Nat}{tc:TT}{tst:Fn Bool}{el:Fn PV}{i0:Nat}(hi:Ui K C i0 wi it)(hg:MG K C gt tg)(hT:Wr T tg)(ht:MT K C tc tst)(he:MJ K C (aF K) te el)
  (hfr:T.all (λj=>fr[j]?==some none)=true:=by rfl):MOh K C i0 (u5 wi fr gt tc te) (gG it fr tg tst el):=by
 intro F H σ ρ Q r R hh e P;rcases cL e with⟨z,e1,rfl⟩|⟨l,e1,hk⟩
 ·exact hi F H σ ρ _ _ R hh e1 P
 split at hk
 case isFalse=>cases hk
 rename_i hlen;refine hi F H σ ρ _ _ R hh e1 λJ F1 H1 u hJ D hD=>?_;have R1:=R.up u;obtain⟨Rb,no⟩:=R1.block fr;have hD0:C.H0 D=none:=R1.rb.u6 hD;have hFD:F1 D=none:=u.fh.free hD;have hρ:∀ (j:Nat),j∈T->(frR fr ρ)[j]?=some none:=λj hj=>by
  have:=ZaZ.mp hfr j hj;unfold frR;rw[Zac,show fr[j]?=some none by simpa using this]
  rfl
 refine⟨λi m σ' H'=>∃ F' ys acc,m=l.length-i/\i<=l.length/\bf F1 F'/\(∀ b o,F' b=some o->F1 b=some o\/Frz H1 b o)/\bf H1 H'/\H' D=some (.lst ys)/\F' D=none/\bW K F' ys acc/\acc.length<=i /\
   RE K C.toCf F' H' σ' (frR fr ρ)/\bnd (d7 tg tst el (frR fr ρ) (l.drop i)) (λr=>some (.ok (.lst (acc++r))))=some r,
  ⟨l.length,F1,[],[],by simp,Zbg _,bf.refl _,λ_ _ q=>.inl q,d9 hD,aX,hFD,.nil,Zag _,Rb.other hFD hD0 no,by rw[Za8];exact hk⟩,?_⟩
 rintro i m σ' H' ⟨F',ys,acc,rfl,hil,s1,fr1,sH,eD,nD,ra,hacc,R',e'⟩;by_cases hlt:i<l.length
 case neg=>
  have ei:i=l.length:=by omega
  subst ei;rw[List.drop_length] at e';have e':some (Res.ok (PV.lst (acc++[])))=some r:=e';rw[ZaM] at e';cases e';exact .inl ⟨hJ.stop F' H' s1 R'.rb.sub,P D F' H' (u.trans ⟨s1,sH,fr1,R'.rb.sub⟩) (u.hh.free hD) nD ⟨ys,eD,ra⟩⟩
 refine .inr ⟨hJ.go i F' H' hlt s1 R'.rb.sub,λσ2 H2=>∃ F2 ys acc,bf F1 F2/\(∀ b o,F2 b=some o->F1 b=some o\/Frz H1 b o)/\bf H1 H2/\H2 D=some (.lst ys)/\F2 D=none/\bW K F2 ys acc/\acc.length<=i+1 /\
   RE K C.toCf F2 H2 σ2 (frR fr ρ)/\bnd (d7 tg tst el (frR fr ρ) (l.drop (i+1))) (λr=>some (.ok (.lst (acc++r))))=some r,
  λσ2 H2 ⟨F2,ys,acc,z⟩=>⟨l.length-(i+1),by omega,F2,ys,acc,rfl,hlt,z⟩,λx H'' y=>?_⟩
 obtain⟨F'',p,u2,ep,rx⟩:=hJ.yld i F' H' x H'' hlt s1 R'.rb.sub y;have ed:l.drop i=p::l.drop (i+1):=by
  rw[Za1 hlt];rw[Zab hlt] at ep;rw[Zaa ep]
 rw[ed,d7] at e';split at e'
 ·cases e'
 rename_i ρ1 h1;obtain⟨w1,w2,w3⟩:=hT p _ ρ1 h1;have no1:=w3 no;have weak:∀ (j:Nat) s,(frR fr ρ)[j]?=some (some s)->ρ1[j]?=some (some s):=λj s ej=>by
  rw[w2 j λz=>by rw[hρ j z] at ej;cases ej];exact ej
 refine hg F'' H'' σ' (frR fr ρ) x p ρ1 _ (R'.up u2) rx h1 λσ1 R1'=>?_;have stay:∀ {F3 H3:Hp},Up F' H' F3 H3->bf F1 F3/\(∀ b o,F3 b=some o->F1 b=some o\/Frz H1 b o)/\bf H1 H3/\H3 D=some (.lst ys)/\F3 D=none/\bW K F3 ys acc:=λ{F3 H3} u3=>by
  refine⟨s1.trans u3.ff,λb o q=>?_,sH.trans u3.hh,u3.hh _ _ eD,?_,ra.up u3.ff⟩
  ·rcases u3.fr b o q with z|z
   ·exact fr1 b o z
   ·exact .inr (z.imp (λz=>sH.free z) id)
  ·cases q:F3 D with
   |none=>rfl
   |some o=>
    rcases u3.fr D o q with z|z|⟨ys,z⟩
    ·rw[nD] at z;cases z
    ·rw[eD] at z;cases z
    ·subst z;have w:=u3.fh _ _ q;rw[u3.hh _ _ eD] at w;cases w
 have Pl:∀ {F3 H3:Hp},Up F' H' F3 H3->∀ {z:PV},r=.ex z->PX C F3 z:=λ{F3 H3} u3 {z} ez=>by
  subst ez;exact PX.up P (u.ff.trans (s1.trans u3.ff))
 rw[jO] at e';rcases cL e' with⟨z',e4,ez⟩|⟨b,e4,e5⟩
 ·exact ht F'' H'' σ1 ρ1 _ _ R1' e4 (Pl u2 ez)
 refine ht F'' H'' σ1 ρ1 _ _ R1' e4 λF3 H3 u3=>?_;have u23:=u2.trans u3;cases b with
 |false=>
  rw[Zap (by decide)] at e5 ⊢
  obtain⟨a1,a2,a3,a4,a5,a6⟩:=stay u23;exact⟨F3,ys,acc,a1,a2,a3,a4,a5,a6,by omega,(R1'.up u3).weak w1.symm weak,e5⟩
 |true=>
  rw[Zan rfl] at e5 ⊢;rw[jO] at e5;rcases cL e5 with⟨z',e6,ez⟩|⟨q,e6,e7⟩
  ·exact he F3 H3 σ1 ρ1 _ _ (R1'.up u3) e6 (Pl u23 ez)
  refine he F3 H3 σ1 ρ1 _ _ (R1'.up u3) e6 λv F4 H4 u4 rv=>?_;have u24:=u23.trans u4;obtain⟨a1,a2,a3,a4,a5,a6⟩:=stay u24;refine⟨ys,a4,by rw[a6.1];omega,F4,ys++[v],acc++[q],a1,a2,qu hD a3,aX,a5,a6.snoc rv,by simp;omega,((R1'.up (u3.trans u4)).other a5 hD0 no1).weak w1.symm weak,?_⟩
  rw[jO] at e7;rw[<-e7];congr 1
  funext rr
  show some (Res.ok (PV.lst (acc++[q]++rr)))=some (Res.ok (PV.lst (acc++q::rr)))
  rw[List.append_assoc];rfl
def uR(i:Nat)(f:Fn PV):Fn PV:=λρ=>match ρ[i]? with
 |some (some (.sh p))=>if p.isD=true then f ρ else none
 |_=>none
theorem Pg{io:Addr->Prop}{H0 F0:Hp}{fe:Fn PV}(i:Nat)(h:∀ H0 F0,MOh K (C0 io H0 F0) i te fe):MO K (C0 io H0 F0) (Mj i te) (uR i fe):=by
 intro F H σ ρ Q r R e P;unfold uR at e;split at e
 case h_2=>cases e
 rename_i p hp;split at e
 case isFalse=>cases e
 rename_i hd;obtain⟨v,ev,rv⟩:=R.sh i p hp;obtain⟨a,u,rfl,rd,hu⟩:∃ a u,v=.ref a/\Rd F a u/\mJ u:=by
  cases rv with
  |dk h=>exact⟨_,_,rfl,h,trivial⟩
  |dt h=>exact⟨_,_,rfl,h,trivial⟩
  |_=>cases hd
 refine⟨a,u,ev,hu,?_⟩;rcases rd with fa|⟨raw,fa⟩
 case inr=>exact .inl ⟨⟨raw,R.rb.sub _ _ fa⟩,h H0 F0 F H σ ρ Q r R ⟨a,raw,u,ev,fa,hu⟩ e P⟩
 refine .inr ⟨R.rb.sub _ _ fa,λraw=>?_⟩;have ha:=R.rb.sub _ _ fa;obtain⟨R2,_⟩:=Pa (raw:=raw) R fa hu;refine h (fZ H0 a raw u) (fZ F0 a raw u) _ _ σ ρ _ r R2 ⟨a,raw,u,ev,aX,hu⟩ e ?_;cases r with
 |ex z=>exact λ_ _ _ _ _ _ x=>x.elim
 |ok q=>
  intro b F3 H3 u3 n1 n2 ow;have f3:F3 a=some (.frz raw u):=u3.ff _ _ aX;have h3:=u3.fh _ _ f3;have hb:b≠a:=λz=>by subst z;rw[f3] at n2;cases n2
  refine⟨h3,P b (upd F3 a u) (upd H3 a u) ⟨λc o' q=>?_,λc o' q=>?_,λc o' q=>?_,λc o' q=>?_⟩ (by rw[aU hb] at n1;exact n1) (by rw[aU hb];exact n2) (ow.sw ⟨λc hc=>aU hc,.inr ⟨raw,f3⟩,.inl aX,hu⟩ (aU hb))⟩
  ·by_cases hc:c=a
   ·subst hc;rw[aX,<-q,fa]
   ·rw[aU hc];exact u3.ff c o' (by rw[aU hc];exact q)
  ·by_cases hc:c=a
   ·subst hc;rw[aX,<-q,ha]
   ·rw[aU hc];exact u3.hh c o' (by rw[aU hc];exact q)
  ·by_cases hc:c=a
   ·subst hc;rw[aX] at q;cases q;exact .inl fa
   ·rw[aU hc] at q;rcases u3.fr c o' q with z|z|z
    ·rw[aU hc] at z;exact .inl z
    ·rw[aU hc] at z;exact .inr (.inl z)
    ·exact .inr (.inr z)
  ·by_cases hc:c=a
   ·subst hc;rw[aX] at q ⊢;exact q
   ·rw[aU hc] at q ⊢;exact u3.fh c o' q
end
end L2.MP
namespace L2
open PySem PySem.Spec PyProof PyProof.Rows
namespace MP
end MP
namespace MP
end MP
namespace MP
end MP
end L2
namespace L2.MP
open PySem PySem.Spec PyProof.Rows
open PySem PySem.Spec PyProof PyProof.Rows
end L2.MP
namespace L2
open PySem PySem.Spec PyProof PyProof.Rows
open PySem PySem.W PyProof.Rows
def kIn{α:Type}(n:Nat)(P:α->Prop):KasT α->Prop
 |.ret a=>P a
 |.ask i j k=>i<n/\j<n/\∀ b,kIn n P (k b)
open PySem PySem.Spec PySem.W PyProof PyProof.Rows
open PySem PySem.Spec PySem.W PyProof PyProof.Rows
namespace MP
end MP
end L2
namespace L2.MP
open PySem PySem.Spec PyProof.Rows
section
variable{K:Frag}{C:Cg}{F H:Hp}{σ:St}{ρ:Rho}{p:PV}
theorem RE.R9{C:Cf}(R:RE K C F H σ ρ)(s:Nat){σ':St}(hl:σ'.length=σ.length)(hs:∀ i,i≠s->σ'[i]?=σ[i]?):RE K C F H σ' (ρ.set s none):=by
 have get:∀ {i:Nat}{y:Sl},(ρ.set s none)[i]?=some (some y)->ρ[i]?=some (some y)/\σ'[i]?=σ[i]?:=λ{i y} h=>by
  rcases get_set h with⟨_,z⟩|⟨ne,z⟩
  ·cases z
  ·exact⟨z,hs i (Za0 ne)⟩
 obtain⟨P,d⟩:=R.dd;refine⟨R.rb,by rw[hl,R.len];simp,λi p h=>?_,λi p h=>?_,λi j p q a h1 h2 e1 e2=>?_,P,d.own,d.dis,λi j q b z h=>?_,λi p h=>?_⟩
 ·obtain⟨h1,h2⟩:=get h;rw[h2];exact R.sh i p h1
 ·obtain⟨h1,h2⟩:=get h;rw[h2];exact R.ow i p h1
 ·obtain⟨g1,g2⟩:=get h1;obtain⟨g3,g4⟩:=get h2;rw[g2] at e1;rw[g4] at e2;exact R.dis i j p q a g1 g3 e1 e2
 ·obtain⟨h1,h2⟩:=get h;rw[h2];exact d.ow i j q b z h1
 ·obtain⟨h1,h2⟩:=get h;rw[h2];exact d.dp i p h1
theorem RE.blank{C:Cf}(R:RE K C F H σ ρ)(s:Nat)(x:Option V):RE K C F H (σ.set s x) (ρ.set s none):=R.R9 s (by simp) λi ne=>Zad (Za0 ne)
end
end L2.MP
namespace L2
open PySem PySem.F PySem.Spec PyProof PyProof.Rows
namespace MP
end MP
open PySem PySem.Spec PyProof PyProof.Rows
namespace MP
end MP
open PySem PySem.Spec PySem.W PyProof PyProof.Rows
namespace MP
end MP
end L2
namespace L2.MP
open PySem PySem.Spec PyProof.Rows
end L2.MP
namespace L2
open PySem PySem.Spec PyProof PyProof.Rows
namespace MP
end MP
end L2
namespace L2.MP
open PySem PySem.Spec PyProof.Rows
end L2.MP
namespace L2.TS
open PySem PySem.Spec PyProof.Rows
section
variable{r:Keyed->Nat}{la lb out:List Keyed}{ia ib:Nat}
def Srt(r:Keyed->Nat)(l:List Keyed):Prop:=l.Pairwise λx y=>r x<r y
structure Mg(r:Keyed->Nat)(la lb out:List Keyed)(ia ib:Nat):Prop where
 so:Srt r out
 lt:∀ o∈out,∀ z∈la.drop ia++lb.drop ib,r o<r z
 pm:out.Perm (la.take ia++lb.take ib)
end
section
variable{r:Keyed->Nat}{a b:Array Keyed}
def Good(r:Keyed->Nat)(a b out:Array Keyed):Prop:=Srt r out.toList/\out.toList.Perm (a.toList++b.toList)
structure In(r:Keyed->Nat)(a b out:Array Keyed)(ia ib:Nat):Prop where
 mg:Mg r a.toList b.toList out.toList ia ib
 ha:ia+1<a.size
 hb:ib<b.size
end
noncomputable abbrev T7:=Option (Array Keyed)×Nat×Nat×Array Keyed×Nat×Nat×Nat
noncomputable abbrev T6:=Option (Array Keyed)×Nat×Nat×Array Keyed×Nat×Nat
noncomputable abbrev T5:=Option (Array Keyed)×Nat×Nat×Array Keyed×Nat
section
variable{r:Keyed->Nat}{la lb out:List Keyed}{na nb:Nat}
structure Mh(r:Keyed->Nat)(la lb out:List Keyed)(na nb:Nat):Prop where
 so:Srt r out.reverse
 lt:∀ o∈out,∀ z∈la.take na++lb.take nb,r z<r o
 pm:out.Perm (la.drop na++lb.drop nb)
end
section
variable{r:Keyed->Nat}{a b:Array Keyed}
structure Ih(r:Keyed->Nat)(a b out:Array Keyed)(na nb:Nat):Prop where
 mh:Mh r a.toList b.toList out.toList na nb
 a0:1<=na
 a1:na<=a.size
 b0:2<=nb
 b1:nb<=b.size
def H7(r:Keyed->Nat)(a b:Array Keyed)(n:Nat):ForInStep T7->Prop
 |.done (some o,_)=>Good r a b o
 |.done (none,na,nb,out,_)=>Ih r a b out na nb/\na+nb<=n
 |.yield (none,na,nb,out,_)=>Ih r a b out na nb/\na+nb<=n
 |.yield (some _,_)=>False
def H6(r:Keyed->Nat)(a b:Array Keyed)(n:Nat):ForInStep T6->Prop
 |.done (some o,_)=>Good r a b o
 |.done (none,na,nb,out,_)=>Ih r a b out na nb/\na+nb<=n
 |.yield (none,na,nb,out,_)=>Ih r a b out na nb/\na+nb<=n
 |.yield (some _,_)=>False
def H5(r:Keyed->Nat)(a b:Array Keyed)(n:Nat):ForInStep T5->Prop
 |.done (some o,_)=>Good r a b o
 |.done (none,_)=>False
 |.yield (none,na,nb,out,_)=>Ih r a b out na nb/\na+nb<=n
 |.yield (some _,_)=>False
end
def Rk(r:Keyed->Nat)(a:Array Keyed)(k:Nat):Nat:=match a[k]? with
 |some x=>r x
 |none=>0
def UT(r:Keyed->Nat)(a:Array Keyed)(i j:Nat):Prop:=∀ p q,i<=p->p<q->q<j->Rk r a p<Rk r a q
noncomputable abbrev Pd:=Nat×Nat×Nat
def Rn(r:Keyed->Nat)(a:Array Keyed):Nat->List Pd->Nat->Prop
 |s,[],e=>s=e
 |s,x::l,e=>x.1=s/\1<=x.2.1/\UT r a s (s+x.2.1)/\Rn r a (s+x.2.1) l e
end L2.TS
namespace L2
open PySem PySem.Spec PyProof PyProof.Rows
namespace MP
end MP
open PySem PySem.Spec PySem.W PyProof PyProof.Rows
noncomputable abbrev Sk:=Str×List Int
open PySem PySem.Spec PySem.W PyProof PyProof.Rows
open PySem PySem.Spec PySem.W PyProof PyProof.Rows
end L2
namespace L2.MP
open PySem PySem.Spec PySem.W PyProof PyProof.Rows
end L2.MP
namespace L2
open PySem PySem.Spec PyProof PyProof.Rows
namespace MP
end MP
namespace MP
end MP
namespace MP
end MP
end L2
namespace L2.MP
section
variable{α:Type}{us:List α}
theorem len0(h:us.length=0):us=[]:=List.length_eq_zero_iff.mp h
theorem Ph{n:Nat}(h:us.length=n+1):∃ a vs,us=a::vs/\vs.length=n:=by
 cases us with
 |nil=>cases h
 |cons a vs=>exact⟨a,vs,rfl,Nat.succ.inj h⟩
theorem z9(h:us.length=1):∃ a,us=[a]:=by
 obtain⟨a,vs,rfl,h2⟩:=Ph h;cases len0 h2;exact⟨a,rfl⟩
theorem lX(h:us.length=2):∃ a b,us=[a,b]:=by
 obtain⟨a,vs,rfl,h2⟩:=Ph h;obtain⟨b,rfl⟩:=z9 h2;exact⟨a,b,rfl⟩
theorem vH(h:us.length=3):∃ a b c,us=[a,b,c]:=by
 obtain⟨a,vs,rfl,h2⟩:=Ph h;obtain⟨b,c,rfl⟩:=lX h2;exact⟨a,b,c,rfl⟩
theorem UV(h:us.length=4):∃ a b c d,us=[a,b,c,d]:=by
 obtain⟨a,vs,rfl,h2⟩:=Ph h;obtain⟨b,c,d,rfl⟩:=vH h2;exact⟨a,b,c,d,rfl⟩
end
end L2.MP
namespace L2
open PySem PySem.Spec PyProof PyProof.Rows
end L2
namespace L2.MP
open PySem PySem.Spec PyProof PyProof.Rows
end L2.MP
namespace L2.SE
open PySem
def Inc(xs:Array Nat):Prop:=xs.toList.Pairwise (·<·)
theorem gd{xs:Array Nat}{i:Nat}(h:i<xs.size)(d e:Nat):xs.getD i d=xs.getD i e:=by
 rw[Zbb,Zbb,Array.getElem?_eq_getElem h];rfl
structure Good(b:Bool)(t:SetTable):Prop where
 led:t.led=b
 dum:t.dummies=#[]
 inc:Inc t.place
open PySem PySem.Spec PyProof PyProof.Rows
section
variable{prog:Program}{w:World}{K:Type}[DecidableEq K](knd:KeyKind prog w K)
def Apart(l:List (Int×Value)):Prop:=l.Pairwise λe f=>∀ k,knd.is k e.2=true->knd.is k f.2=true->False
variable{knd}
end
open PySem PySem.Spec PyProof PyProof.Rows
section
variable{K:Type}[DecidableEq K]
def seen(key:Nat->K)(i:Nat):K->Bool:=λk=>(List.range i).any λj=>decide (k=key j)
end
open PySem PySem.Spec PyProof PyProof.Rows
def It(h:Heap)(I:Addr)(f:Value)(i:Nat)(a:Addr)(n ep:Nat):Prop:=∃ o,h.get? I=some o/\o.cls=.type "set_iterator"/\o.data=.fields #[f,.int i 0,.ref a,.int n 0,.int ep 0]
open PySem PySem.Spec PyProof PyProof.Rows
open PySem PySem.Spec PyProof PyProof.Rows
open PySem PySem.Spec PyProof PyProof.Rows
def slots(t:SetTable):Nat->Nat
 |0=>0
 |i+1=>t.place.getD i 0+1
end L2.SE
namespace L2
open PySem PySem.Spec PyProof PyProof.Rows
def dd:List Int->List Int
 |[]=>[]
 |x::l=>if x∈l then dd l else x::dd l
namespace MP
end MP
namespace MP
end MP
end L2
namespace L2.MP
open PySem PySem.Spec PyProof.Rows
section
variable{K:Frag}{C:Cg}{te tb tc:TE}{F F1 F2 H H1 H2:Hp}{σ:St}{ρ:Rho}{D:Ends}{S:Addr->Prop}{v:V}{p:PV}{i g:Nat}{fe fi fj:Fn PV}
theorem Dp.setAt{b:Addr}{T:Nat->Addr->Prop}{ys:List V}{row:List PV}{q:PV}{n:Nat}(e:H b=some (.lst ys))(sb:S b)(ht:∀ j c,T j c->S c/\c≠b)(d:Dps K F H T ys row)(r:Rep K F v q)(st:q.still=true):Dp K F (upd H b (.lst (ys.set n v))) S (.ref b) (.lst (row.set n q)):=by
 refine .lst (S:=λj c=>j≠n/\T j c) aX sb (λj c z=>ht j c z.2) (λi j c z z'=>d.2.1 i j c z.2 z'.2) (by simp[d.1]) λj x p e1 e2=>?_
 rcases get_set e1 with⟨f1,f2⟩|⟨f1,f2⟩
 ·rcases get_set e2 with⟨g1,g2⟩|⟨g1,g2⟩
  ·subst f2;subst g2;exact .fr r st
  ·exact absurd f1 g1
 ·rcases get_set e2 with⟨g1,g2⟩|⟨g1,g2⟩
  ·exact absurd g1 f1
  ·refine((d.2.2 j x p f2 g2).up (bf.refl _) (λc o z e=>by rw[aU (ht j c z).2];exact e) λc zs e'=>?_).mono λc z=>⟨Za0 f1,z⟩
   rw[aU (λw=>by subst w;rw[e] at e';cases e')];exact e'
def rowAt(l:List PV)(k:PV):Option (Nat×List PV):=match k with
 |.int k=>match ixN l.length k with
  |some j=>match l[j]? with
   |some (.lst row)=>some (j,row)
   |_=>none
  |none=>none
 |_=>none
def yZ(i:Nat)(l:List PV)(jr:Nat×List PV)(m q:PV)(ρ:Rho):Option Out:=match m with
 |.int m=>match ixN jr.2.length m with
  |some n=>if q.still=true then some (.nx (ρ.set i (some (.dp (.lst (l.set jr.1 (.lst (jr.2.set n q)))))))) else none
  |none=>none
 |_=>none
theorem Dh{l:List PV}{k:PV}{jr:Nat×List PV}(h:rowAt l k=some jr):∃ k':Int,k=.int k'/\ixN l.length k'=some jr.1/\l[jr.1]?=some (.lst jr.2):=by
 unfold rowAt at h;split at h
 case h_2=>cases h
 split at h
 case h_2=>cases h
 rename_i j hj;split at h
 case h_2=>cases h
 rename_i row hr;cases h;exact⟨_,rfl,hj,hr⟩
def Di(i:Nat)(fe fi fj:Fn PV):Sn:=λρ=>iz (fe ρ) λq=>match yl i ρ with
 |some (.lst l)=>iz (fi ρ) λk=>match rowAt l k with
  |some jr=>iz (fj ρ) λm=>yZ i l jr m q ρ
  |none=>none
 |_=>none
theorem HQ{o:Out}{l:List PV}{jr:Nat×List PV}{m q:PV}{wm w:V}(R:RE K C.toCf F H σ ρ)(hl:ρ[i]?=some (some (.dp (.lst l))))(hk:yZ i l jr m q ρ=some o)(P:PO' K C F D o)
  (kr:l[jr.1]?=some (.lst jr.2))(am:Rep K F wm m)(aq:Rep K F w q){P1:Nat->Addr->Prop}(d1:RD K C.toCf F H σ ρ P1)(e1:σ[i]?=some (some (.ref a))){xs:List V}(ha:H a=some (.lst xs)){T T2:Nat->Addr->Prop}(sa:P1 i a)(ht:∀ j b,T j b->P1 i b/\b≠a)(ds:Dps K F H T xs l)
  {b:Addr}{ys:List V}(ex:xs[jr.1]?=some (.ref b))(hb:H b=some (.lst ys))(sb:T jr.1 b)(ht2:∀ j c,T2 j c->T jr.1 c/\c≠b)(ds2:Dps K F H T2 ys jr.2):BL (.ref b) wm w H λH3=>D.nx σ H3:=by
 unfold yZ at hk;split at hk
 case h_2=>cases hk
 rename_i m';cases Rep.bI am;split at hk
 case h_2=>cases hk
 rename_i n hn;split at hk
 case isFalse=>cases hk
 rename_i hq;cases hk;refine⟨b,ys,m',n,rfl,rfl,hb,by rw[ds2.1];exact hn,?_⟩
 have nt:∀ zs,H b≠some (.tup zs):=λzs z=>by rw[hb] at z;cases z
 have nab:a≠b:=λz=>(ht jr.1 b sb).2 z.symm;refine P F _ σ (bf.refl _) (R.R7 d1 hl e1 (ht jr.1 b sb).1 (λys z=>by cases z) (S':=P1 i) ?_ λc z=>.inl z)
 have pu:=ds.put (q:=.lst (jr.2.set n q)) (ob:=.lst (ys.set n w)) sb nt ex (Dp.setAt hb sb ht2 ds2 aq hq);exact .lst (by rw[aU nab];exact ha) sa ht pu.2.1 pu.1 pu.2.2
theorem HR(h:MJ K C (aF K) te fe)(hi:MJ K C (aF K) tb fi)(hj:MJ K C (aF K) tc fj):MS K C (ye te (Ny (tOp (rIx K) (o9 i) tb) tc BL)) (Di i fe fi fj):=by
 intro F H σ ρ D o R e P;refine h.qN R e P λq w F1 H1 hk u aq=>?_;split at hk
 case h_2=>cases hk
 rename_i l hl;obtain⟨S,v,e1,_,_,_⟩:=R.R6 (kJ hl);refine⟨v,e1,hi.qN (R.up u) hk (P.up u.ff) λk wk F2 H2 hk2 u2 ak=>?_⟩;split at hk2
 case h_2=>cases hk2
 rename_i jr hjr;obtain⟨k',rfl,hx,kr⟩:=Dh hjr;cases Rep.bI ak;have u12:=u.trans u2;obtain⟨P1,d1⟩:=(R.up u12).dd;obtain⟨v',e1',dp1⟩:=d1.dp i _ (kJ hl);rw[e1] at e1';cases e1';obtain⟨T,a,xs,rfl,ha,sa,ht,ds⟩:=dp1.cN;have hjx:jr.1<xs.length:=by rw[ds.1];exact bT kr
 obtain⟨x,ex⟩:∃ x,xs[jr.1]?=some x:=⟨_,Zab hjx⟩;obtain⟨T2,b,ys,rfl,hb,sb,ht2,ds2⟩:=(ds.2.2 jr.1 x _ ex kr).cN;refine .inl ⟨a,xs,k',.ref b,rfl,rfl,SqL.of ha,by unfold atI;rw[ds.1,hx];exact ex,?_⟩
 refine hj.qN (R.up u12) hk2 (P.up u12.ff) λm wm F3 H3 hk3 u3 am=>?_;have u13:=u12.trans u3;exact HQ (R.up u13) (kJ hl) hk3 (P.up u13.ff) kr am (Rep.up aq (u2.trans u3).ff) (d1.up u3) e1 (u3.hh _ _ ha) sa ht ⟨ds.1,ds.2.1,λk y r c1 c2=>(ds.2.2 k y r c1 c2).stay u3⟩ ex (u3.hh _ _ hb) sb ht2 ⟨ds2.1,ds2.2.1,λk y r c1 c2=>(ds2.2.2 k y r c1 c2).stay u3⟩
def tW(i g:Nat)(fi fe fj:Fn PV):Sn:=λρ=>match yl i ρ with
 |some (.lst l)=>if i≠g/\g<ρ.length then iz (fi ρ) λk=>match rowAt l k with
  |some jr=>iz (fe (ρ.set g none)) λq=>iz (fj (ρ.set g none)) λm=>yZ i l jr m q (ρ.set g none)
  |none=>none else none
 |_=>none
theorem JF(hi:MJ K C (aF K) tb fi)(h:MJ K C (aF K) te fe)(hj:MJ K C (aF K) tc fj):MS K C (Q9 (ye (tOp (rIx K) (o9 i) tb) (uY g)) (ye te (Ny (o9 g) tc BL))) (tW i g fi fe fj):=by
 intro F H σ ρ D o R e P;unfold tW at e;split at e
 case h_2=>cases e
 rename_i l hl;split at e
 case isFalse=>cases e
 rename_i hc;obtain⟨hig,hgl⟩:=hc;obtain⟨S,v,e1,_,_,_⟩:=R.R6 (kJ hl);refine⟨v,e1,hi.qN R e P λk wk F1 H1 hk u ak=>?_⟩;split at hk
 case h_2=>cases hk
 rename_i jr hjr;obtain⟨k',rfl,hx,kr⟩:=Dh hjr;cases Rep.bI ak;obtain⟨P1,d1⟩:=(R.up u).dd;obtain⟨v',e1',dp1⟩:=d1.dp i _ (kJ hl);rw[e1] at e1';cases e1';obtain⟨T,a,xs,rfl,ha,sa,ht,ds⟩:=dp1.cN;have hjx:jr.1<xs.length:=by rw[ds.1];exact bT kr
 obtain⟨x,ex⟩:∃ x,xs[jr.1]?=some x:=⟨_,Zab hjx⟩;obtain⟨T2,b,ys,rfl,hb,sb,ht2,ds2⟩:=(ds.2.2 jr.1 x _ ex kr).cN;refine .inl ⟨a,xs,k',.ref b,rfl,rfl,SqL.of ha,by unfold atI;rw[ds.1,hx];exact ex,?_⟩
 have Rb:RE K C.toCf F1 H1 (σ.set g (some (.ref b))) (ρ.set g none):=(R.up u).blank g _;have hl':(ρ.set g none)[i]?=some (some (.dp (.lst l))):=by rw[Zad (Za0 hig)];exact kJ hl
 show ye te (Ny (o9 g) tc BL) D (σ.set g (some (.ref b))) H1
 refine h.qN Rb hk (P.up u.ff) λq w F2 H2 hk2 u2 aq=>?_;have hg:g<σ.length->(σ.set g (some (V.ref b)))[g]?=some (some (.ref b)):=λz=>by rw[ZaE z]
 refine⟨_,hg (by rw[R.len];exact hgl),hj.qN (Rb.up u2) hk2 ((P.up u.ff).up u2.ff) λm wm F3 H3 hk3 u3 am=>?_⟩
 have u23:=u2.trans u3;obtain⟨P2,d2⟩:=(Rb.up u23).dd;obtain⟨v2,e2,dp2⟩:=d2.dp i _ hl';have e1g:(σ.set g (some (V.ref b)))[i]?=some (some (.ref a)):=by rw[Zad (Za0 hig)];exact e1
 rw[e1g] at e2;cases e2;obtain⟨T',a',xs',ea,ha',sa',ht',ds'⟩:=dp2.cN;cases ea;rw[u23.hh _ _ ha] at ha';cases ha';obtain⟨T2',b',ys',eb,hb',sb',ht2',ds2'⟩:=(ds'.2.2 jr.1 _ _ ex kr).cN;cases eb;exact HQ (Rb.up u23) hl' hk3 ((P.up u.ff).up u23.ff) kr am (Rep.up aq u3.ff) d2 e1g (u23.hh _ _ ha) sa' ht' ds' ex hb' sb' ht2' ds2'
end
end L2.MP
namespace MM
open PySem PySem.Spec PyProof.Rows L2 L2.MP
def Tv{α:Type}(x:Option (Res α))(Q:α->Prop):Prop:=∃ a,x=some (.ok a)/\Q a
def Out.calm:Out->Prop
 |.ex _=>False
 |_=>True
def To(x:Option Out)(Q:Out->Prop):Prop:=∃ o,x=some o/\Out.calm o/\Q o
def Aa(k:Rho->Prop)(Q:Out->Prop):Out->Prop
 |.nx ρ=>k ρ
 |o=>Q o
section
variable{α β γ:Type}{Q:α->Prop}{QS:Out->Prop}{k:β->Prop}{f:Fn PV}{g h:Fn PV}{ρ:Rho}{a:β}{z p:PV}{i:Nat}{s t:Sn}
theorem onNx_nx{k:Rho->Prop}:Aa k QS (.nx ρ)=k ρ:=rfl
theorem onNx_rt{k:Rho->Prop}:Aa k QS (.rt p)=QS (.rt p):=rfl
theorem onNx_ro{k:Rho->Prop}:Aa k QS (.ro p)=QS (.ro p):=rfl
theorem onNx_rd{k:Rho->Prop}:Aa k QS (.rd p)=QS (.rd p):=rfl
theorem onNx_bk{k:Rho->Prop}:Aa k QS (.bk ρ)=QS (.bk ρ):=rfl
theorem onNx_ct{k:Rho->Prop}:Aa k QS (.ct ρ)=QS (.ct ρ):=rfl
theorem tv_some{a:α}:Tv (some (.ok a)) Q=Q a:=by
 refine propext ⟨?_,λq=>⟨a,rfl,q⟩⟩;rintro⟨r',e,q⟩;cases e;exact q
theorem to_nx:To (some (.nx ρ)) QS=QS (.nx ρ):=propext ⟨λ⟨_,e,_,q⟩=>by cases e;exact q,λq=>⟨_,rfl,trivial,q⟩⟩
theorem to_rt:To (some (.rt p)) QS=QS (.rt p):=propext ⟨λ⟨_,e,_,q⟩=>by cases e;exact q,λq=>⟨_,rfl,trivial,q⟩⟩
theorem to_ro:To (some (.ro p)) QS=QS (.ro p):=propext ⟨λ⟨_,e,_,q⟩=>by cases e;exact q,λq=>⟨_,rfl,trivial,q⟩⟩
theorem to_rd:To (some (.rd p)) QS=QS (.rd p):=propext ⟨λ⟨_,e,_,q⟩=>by cases e;exact q,λq=>⟨_,rfl,trivial,q⟩⟩
theorem to_bk:To (some (.bk ρ)) QS=QS (.bk ρ):=propext ⟨λ⟨_,e,_,q⟩=>by cases e;exact q,λq=>⟨_,rfl,trivial,q⟩⟩
theorem to_ct:To (some (.ct ρ)) QS=QS (.ct ρ):=propext ⟨λ⟨_,e,_,q⟩=>by cases e;exact q,λq=>⟨_,rfl,trivial,q⟩⟩
theorem tv_bnd{x:Option (Res β)}{kk:β->Option (Res α)}:Tv (bnd x kk) Q=Tv x (λb=>Tv (kk b) Q):=by
 refine propext ⟨?_,?_⟩
 ·rintro⟨r,e,q⟩;rcases cL e with⟨z,e1,e2⟩|⟨b,e1,e2⟩
  ·cases e2
  ·exact⟨_,e1,r,e2,q⟩
 ·rintro⟨b,e,q⟩;subst e;exact q
theorem to_bnd{x:Option (Res β)}{kk:β->Option Out}:To (iz x kk) QS=Tv x (λb=>To (kk b) QS):=by
 refine propext ⟨?_,?_⟩
 ·rintro⟨r,e,c,q⟩;rcases gf e with⟨z,e1,rfl⟩|⟨b,e1,e2⟩
  ·exact c.elim
  ·exact⟨_,e1,r,e2,c,q⟩
 ·rintro⟨b,e,q⟩;subst e;exact q
theorem to_seq:To (bD s t ρ) QS=To (s ρ) (Aa (λρ'=>To (t ρ') QS) QS):=by
 refine propext ⟨?_,?_⟩
 ·rintro⟨r,e,c,q⟩;unfold bD at e;split at e
  ·rename_i ρ' h;exact⟨_,h,trivial,r,e,c,q⟩
  ·rename_i x hx;refine⟨r,e,c,?_⟩;cases r with
   |nx ρ'=>exact absurd e (hx ρ')
   |_=>exact q
 ·rintro⟨o,e,c,q⟩;unfold bD To;rw[e];cases o with
  |nx ρ'=>exact q
  |_=>exact⟨_,rfl,c,q⟩
theorem kO:Tv (none:Option (Res α)) Q=False:=propext ⟨λ⟨_,e,_⟩=>(nomatch e),λh=>h.elim⟩
theorem Ab:To none QS=False:=propext ⟨λ⟨_,e,_⟩=>(nomatch e),λh=>h.elim⟩
theorem tv_m2{op:β->γ->Option (Res α)}{f:Fn β}{g:Fn γ}:Tv (m2 op f g ρ) Q=Tv (f ρ) (λa=>Tv (g ρ) (λb=>Tv (op a b) Q)):=by
 unfold m2;simp only[tv_bnd]
theorem tv_m1{op:β->Option (Res α)}{f:Fn β}:Tv (m1 op f ρ) Q=Tv (f ρ) (λa=>Tv (op a) Q):=by unfold m1;rw[tv_bnd]
theorem tv_var{Q:PV->Prop}:Tv (mV i ρ) Q=∃ p,ρ[i]?=some (some (.sh p))/\Q p:=by
 refine propext ⟨?_,λ⟨p,e,q⟩=>⟨_,by unfold mV;rw[e],q⟩⟩
 rintro⟨r,e,q⟩;unfold mV at e;split at e
 ·rename_i p hp;cases e;exact⟨_,hp,q⟩
 ·cases e
theorem tv_lend{Q:PV->Prop}:Tv (mVL i ρ) Q=∃ s,ρ[i]?=some (some s)/\(match s with|.sh p=>Q p|.ow p=>Q p|.dp _=>False):=by
 refine propext ⟨?_,?_⟩
 ·rintro⟨r,e,q⟩;unfold mVL at e;split at e
  ·rename_i p hp;cases e;exact⟨_,hp,q⟩
  ·rename_i p hp;cases e;exact⟨_,hp,q⟩
  ·cases e
 ·rintro⟨s,e,q⟩;cases s with
  |sh p=>exact⟨_,by unfold mVL;rw[e],q⟩
  |ow p=>exact⟨_,by unfold mVL;rw[e],q⟩
  |dp p=>exact q.elim
theorem tv_c{Q:PV->Prop}:Tv (mC p ρ) Q=Q p:=tv_some
theorem tv_view{Q:List PV->Prop}:Tv (pK f ρ) Q=Tv (f ρ) (λa=>Tv (u9 a) Q):=tv_bnd
theorem tv_viewN{Q:List PV->Prop}:Tv (iB i ρ) Q=Tv (mVL i ρ) (λa=>Tv (u9 a) Q):=tv_bnd
theorem tv_asLst{l:List PV}{Q:List PV->Prop}:Tv (u9 (.lst l)) Q=Q l:=tv_some
theorem tv_nil{Q:List PV->Prop}:Tv (bA ρ) Q=Q []:=tv_some
theorem tv_cons{g:Fn (List PV)}{Q:List PV->Prop}:Tv (aJ f g ρ) Q=Tv (f ρ) (λa=>Tv (g ρ) (λl=>Q (a::l))):=by
 unfold aJ;simp only[tv_bnd,tv_some]
theorem cR{c:Prop}[Decidable c]{a:α}:Tv (if c then some (.ok a) else none) Q=(c/\Q a):=by
 by_cases h:c
 ·rw[Zan h,tv_some];simp[h]
 ·rw[Zap h,kO];simp[h]
theorem tv_tup{f:Fn (List PV)}{Q:PV->Prop}:Tv (lV f ρ) Q=Tv (f ρ) (λl=>l.length<=sizeLine/\Q (.tup l)):=by
 unfold lV;simp only[tv_bnd,cR]
theorem tv_lst{f:Fn (List PV)}{Q:PV->Prop}:Tv (pD f ρ) Q=Tv (f ρ) (λl=>l.length<=sizeLine/\Q (.lst l)):=by
 unfold pD;simp only[tv_bnd,cR]
theorem tv_call{m:List PV->Option (Res PV)}{f:Fn (List PV)}{Q:PV->Prop}:Tv (bU m f ρ) Q=Tv (f ρ) (λl=>Tv (m l) Q):=tv_bnd
theorem tv_callL{m:List PV->Option (Res PV)}{f:Fn (List PV)}{Q:PV->Prop}:Tv (zM m f ρ) Q=Tv (f ρ) (λl=>Tv (m l) (λp=>p.flat=true/\Q p)):=by
 unfold zM;rw[tv_bnd];congr 1
 funext l
 refine propext ⟨?_,λ⟨p,e,hf,q⟩=>⟨p,by simp only[e,hf,Za7],q⟩⟩
 rintro⟨r,e,q⟩;split at e
 ·rename_i p hp;split at e
  ·rename_i hf;cases e;exact⟨_,hp,hf,q⟩
  ·cases e
 ·cases e
theorem tv_ite{c:Prop}[Decidable c]{x y:Option (Res α)}:Tv (if c then x else y) Q=if c then Tv x Q else Tv y Q:=by split<;>rfl
theorem to_ite{c:Prop}[Decidable c]{x y:Option Out}:To (if c then x else y) QS=if c then To x QS else To y QS:=by split<;>rfl
theorem tv_mIf{c:Fn Bool}{f g:Fn α}:Tv (mIf c f g ρ) Q=Tv (c ρ) (λb=>if b=true then Tv (f ρ) Q else Tv (g ρ) Q):=by
 unfold mIf;simp only[tv_bnd,tv_ite]
theorem tv_mAnd{c d:Fn Bool}{Q:Bool->Prop}:Tv (zL c d ρ) Q=Tv (c ρ) (λb=>if b=true then Tv (d ρ) Q else Q false):=by
 unfold zL;simp only[tv_bnd,tv_ite,tv_some]
theorem tv_mOr{c d:Fn Bool}{Q:Bool->Prop}:Tv (mOr c d ρ) Q=Tv (c ρ) (λb=>if b=true then Q true else Tv (d ρ) Q):=by
 unfold mOr;simp only[tv_bnd,tv_ite,tv_some]
theorem tv_mNot{c:Fn Bool}{Q:Bool->Prop}:Tv (wJ c ρ) Q=Tv (c ρ) (λb=>Q (!b)):=by
 unfold wJ;simp only[tv_bnd,tv_some]
theorem tv_and{Q:PV->Prop}:Tv (tO f g ρ) Q=Tv (f ρ) (λa=>∃ b,a=.bl b/\if b=true then Tv (g ρ) Q else Q (.bl false)):=by
 unfold tO;rw[tv_bnd];congr 1;funext a
 refine propext ⟨?_,?_⟩
 ·rintro⟨r,e,q⟩;split at e
  ·exact⟨true,rfl,by rw[Zan rfl];exact⟨r,e,q⟩⟩
  ·cases e;exact⟨false,rfl,by rw[Zap (by decide)];exact q⟩
  ·cases e
 ·rintro⟨b,e,q⟩;subst e;cases b with
  |true=>rw[Zan rfl] at q;exact q
  |false=>rw[Zap (by decide)] at q;exact⟨_,rfl,q⟩
theorem tv_or{Q:PV->Prop}:Tv (Oi f g ρ) Q=Tv (f ρ) (λa=>∃ b,a=.bl b/\if b=true then Q (.bl true) else Tv (g ρ) Q):=by
 unfold Oi;rw[tv_bnd];congr 1;funext a
 refine propext ⟨?_,?_⟩
 ·rintro⟨r,e,q⟩;split at e
  ·cases e;exact⟨true,rfl,by rw[Zan rfl];exact q⟩
  ·exact⟨false,rfl,by rw[Zap (by decide)];exact⟨r,e,q⟩⟩
  ·cases e
 ·rintro⟨b,e,q⟩;subst e;cases b with
  |true=>rw[Zan rfl] at q;exact⟨_,rfl,q⟩
  |false=>rw[Zap (by decide)] at q;exact q
theorem tv_chain{o1 o2:PV->PV->Option (Res PV)}{Q:PV->Prop}:Tv (zK o1 o2 f g h ρ) Q=Tv (f ρ) (λa=>Tv (g ρ) (λb=>Tv (o1 a b) (λz=>∃ t,z=.bl t/\if t=true then Tv (h ρ) (λc=>Tv (o2 b c) Q) else Q (.bl false)))):=by
 unfold zK;simp only[tv_bnd];congr 1;funext a
 congr 1;funext b
 congr 1;funext c
 refine propext ⟨?_,?_⟩
 ·rintro⟨r,e,q⟩;split at e
  ·refine⟨true,rfl,?_⟩;rw[Zan rfl,<-tv_bnd];exact⟨r,e,q⟩
  ·cases e;exact⟨false,rfl,by rw[Zap (by decide)];exact q⟩
  ·cases e
 ·rintro⟨t,e,q⟩;subst e;cases t with
  |true=>rw[Zan rfl,<-tv_bnd] at q;exact q
  |false=>rw[Zap (by decide)] at q;exact⟨_,rfl,q⟩
theorem tv_comp{it:Fn (List PV)}{fr:List (Option Nat)}{tg:PV->Rho->Option Rho}{tst:Fn Bool}{el:Fn PV}{Q:PV->Prop}:Tv (gG it fr tg tst el ρ) Q=Tv (it ρ) (λl=>l.length<=sizeLine/\Tv (d7 tg tst el (frR fr ρ) l) (λr=>Q (.lst r))):=by
 unfold gG;rw[tv_bnd];congr 1;funext l
 by_cases hl:l.length<=sizeLine
 ·rw[Zan hl,tv_bnd];simp only[tv_some,hl,true_and]
 ·rw[Zap hl,kO];simp[hl]
theorem to_next:To (dR ρ) QS=QS (.nx ρ):=to_nx
theorem to_ret:To (dB f ρ) QS=Tv (f ρ) (λp=>QS (.rt p)):=by unfold dB;simp only[to_bnd,to_rt]
theorem to_retO:To (wL f ρ) QS=Tv (f ρ) (λp=>QS (.ro p)):=by unfold wL;simp only[to_bnd,to_ro]
theorem to_setO:To (jW i f ρ) QS=Tv (f ρ) (λp=>QS (.nx (ρ.set i (some (.ow p))))):=by unfold jW;simp only[to_bnd,to_nx]
theorem to_asg{tg:PV->Rho->Option Rho}:To (cI f tg ρ) QS=Tv (f ρ) (λp=>∃ ρ',tg p ρ=some ρ'/\QS (.nx ρ')):=by
 unfold cI;rw[to_bnd];congr 1;funext a
 cases e:tg a ρ with
 |none=>rw[Ab];exact propext ⟨λh=>h.elim,λ⟨_,z,_⟩=>nomatch z⟩
 |some ρ'=>rw[to_nx];exact propext ⟨λq=>⟨ρ',rfl,q⟩,λ⟨_,z,q⟩=>by cases z;exact q⟩
theorem to_asgN:To (cI f (gN i) ρ) QS=Tv (f ρ) (λp=>QS (.nx (ρ.set i (some (.sh p))))):=by
 rw[to_asg];congr 1;funext a
 exact propext ⟨λ⟨ρ',e,q⟩=>by cases e;exact q,λq=>⟨_,rfl,q⟩⟩
theorem to_if{c:Fn Bool}:To (eY c s t ρ) QS=Tv (c ρ) (λb=>if b=true then To (s ρ) QS else To (t ρ) QS):=by
 unfold eY;simp only[to_bnd,to_ite]
theorem to_for{it:Fn (List PV)}{tg:PV->Rho->Option Rho}:To (jc it tg s ρ) QS=Tv (it ρ) (λl=>To (loop tg s l ρ) QS):=to_bnd
theorem to_retOw:To (jq i ρ) QS=∃ p,ρ[i]?=some (some (.ow p))/\QS (.ro p):=by
 refine propext ⟨?_,λ⟨p,e,q⟩=>⟨.ro p,by unfold jq ownAt;rw[e],trivial,q⟩⟩
 rintro⟨r,e,c,q⟩;unfold jq at e;split at e
 ·rename_i p hp;cases e;exact⟨p,cV hp,q⟩
 ·cases e
theorem to_app:To (pF i f ρ) QS=∃ l,ρ[i]?=some (some (.ow (.lst l)))/\Tv (f ρ) (λp=>l.length<sizeLine/\QS (.nx (ρ.set i (some (.ow (.lst (l++[p]))))))):=by
 refine propext ⟨?_,?_⟩
 ·rintro⟨r,e,c,q⟩;unfold pF at e;split at e
  ·rename_i l hl;refine⟨l,cV hl,?_⟩;rcases gf e with⟨z,e1,rfl⟩|⟨p,e1,e2⟩
   ·exact c.elim
   ·split at e2
    ·rename_i hlen;cases e2;exact⟨_,e1,hlen,q⟩
    ·cases e2
  ·cases e
 ·rintro⟨l,e,p,e1,h,q⟩;have eo:ownAt i ρ=some (.lst l):=by unfold ownAt;rw[e]
  unfold To pF;rw[eo];exact⟨.nx _,by simp only[e1,iz];exact Zan h,trivial,q⟩
theorem to_frz:To (RX i s ρ) QS=To (s (Cm i ρ)) QS:=rfl
theorem Sd{p:PV}(h:ρ[i]?=some (some (.ow p))):Cm i ρ=ρ.set i (some (.sh p)):=by unfold Cm ownAt;rw[h]
theorem j0{c:Int->Int->Bool}{F:Int->Int->PV}{x y:Int}{Q:PV->Prop}:Tv (MP.opI c F (.int x) (.int y)) Q=(c x y=true/\Q (F x y)):=cR
theorem tv_sub{x y:Int}{Q:PV->Prop}:Tv (qW (.int x) (.int y)) Q=Q (.int (x-y)):=by unfold qW;rw[j0];simp[cT]
theorem tv_and'{x y:Int}{Q:PV->Prop}:Tv (wM (.int x) (.int y)) Q=Q (.int (Builtin.bitAnd x y)):=by unfold wM;rw[j0];simp[cT]
theorem tv_or'{x y:Int}{Q:PV->Prop}:Tv (Oo (.int x) (.int y)) Q=Q (.int (Builtin.bitOr x y)):=by unfold Oo;rw[j0];simp[cT]
theorem tv_gt{x y:Int}{Q:PV->Prop}:Tv (Oq (.int x) (.int y)) Q=Q (.bl (decide (y<x))):=by unfold Oq;rw[j0];simp[cT]
theorem tv_ge{x y:Int}{Q:PV->Prop}:Tv (Jt (.int x) (.int y)) Q=Q (.bl (decide (y<=x))):=by unfold Jt;rw[j0];simp[cT]
theorem tv_div{x y:Int}{Q:PV->Prop}:Tv (vd (.int x) (.int y)) Q=((0<y/\y<1073741824)/\Q (.int (x/y))):=by unfold vd;rw[j0];simp[RM]
theorem tv_mod{x y:Int}{Q:PV->Prop}:Tv (cz (.int x) (.int y)) Q=(0<y/\Q (.int (x%y))):=by unfold cz;rw[j0];simp[T4]
theorem tv_pow{x y:Int}{Q:PV->Prop}:Tv (tQ (.int x) (.int y)) Q=((0<=y/\y<=1000000/\x.natAbs<2^64)/\Q (.int (x^y.toNat))):=by unfold tQ;rw[j0];simp[Ld]
theorem tv_shl{x y:Int}{Q:PV->Prop}:Tv (vf (.int x) (.int y)) Q=((0<=y/\y<=1000000/\x.natAbs<2^64)/\Q (.int (x*2^y.toNat))):=by unfold vf;rw[j0];simp[Ld]
theorem tv_shr{x y:Int}{Q:PV->Prop}:Tv (Cu (.int x) (.int y)) Q=(0<=y/\Q (.int (x/2^y.toNat))):=by unfold Cu;rw[j0];simp[T8]
theorem tv_add{x y:Int}{Q:PV->Prop}:Tv (b7 (.int x) (.int y)) Q=Q (.int (x+y)):=tv_some
theorem tv_addS{x y:Str}{Q:PV->Prop}:Tv (b7 (.str x) (.str y)) Q=(x.length+y.length<=sizeLine/\Q (.str (x++y))):=cR
theorem tv_addT{x y:List PV}{Q:PV->Prop}:Tv (b7 (.tup x) (.tup y)) Q=((x≠[]/\x.length+y.length<=sizeLine)/\Q (.tup (x++y))):=cR
theorem tv_mul{x y:Int}{Q:PV->Prop}:Tv (gh (.int x) (.int y)) Q=(Fe x y/\Q (.int (x*y))):=by
 show Tv (if Lb x y=true then _ else none) Q=_
 rw[cR];unfold Lb Fe;simp
theorem tv_mulS{z:Str}{n:Int}{Q:PV->Prop}:Tv (gh (.str z) (.int n)) Q=((-(2^63)<=n/\n<2^63/\z.length*n.toNat<=sizeLine)/\Q (.str (RN z n.toNat))):=cR
theorem tv_lt{x y:Int}{Q:PV->Prop}:Tv (zP (.int x) (.int y)) Q=Q (.bl (decide (x<y))):=tv_some
theorem tv_ltS{x y:Str}{Q:PV->Prop}:Tv (zP (.str x) (.str y)) Q=Q (.bl (decide (x.cps.toList<y.cps.toList))):=tv_some
theorem tv_le{x y:Int}{Q:PV->Prop}:Tv (Ju (.int x) (.int y)) Q=Q (.bl (decide (x<=y))):=tv_some
theorem tv_leS{x y:Str}{Q:PV->Prop}:Tv (Ju (.str x) (.str y)) Q=Q (.bl (!(decide (y.cps.toList<x.cps.toList)))):=tv_some
theorem tv_eq{p q:PV}{Q:PV->Prop}:Tv (gD p q) Q=∃ r,eqF 32 p q=some r/\Q (.bl r):=by
 refine propext ⟨?_,λ⟨r,e,k⟩=>⟨_,by unfold gD;rw[e],k⟩⟩
 rintro⟨r,e,k⟩;unfold gD at e;split at e
 ·rename_i b hb;cases e;exact⟨b,hb,k⟩
 ·cases e
theorem tv_ne{p q:PV}{Q:PV->Prop}:Tv (uK p q) Q=∃ r,eqF 32 p q=some r/\Q (.bl (!r)):=by
 refine propext ⟨?_,λ⟨r,e,k⟩=>⟨_,by unfold uK;rw[e],k⟩⟩
 rintro⟨r,e,k⟩;unfold uK at e;split at e
 ·rename_i b hb;cases e;exact⟨b,hb,k⟩
 ·cases e
theorem eqF_int(n:Nat)(i j:Int):eqF n (.int i) (.int j)=some (decide (i=j)):=by cases n<;>rfl
theorem eqF_str(n:Nat)(i j:Str):eqF n (.str i) (.str j)=some (decide (i=j)):=by cases n<;>rfl
theorem eqF_bl(n:Nat)(i j:Bool):eqF n (.bl i) (.bl j)=some (decide (i=j)):=by cases n<;>rfl
theorem tv_eqI{x y:Int}{Q:PV->Prop}:Tv (gD (.int x) (.int y)) Q=Q (.bl (decide (x=y))):=by rw[tv_eq,eqF_int];simp
theorem tv_eqS{x y:Str}{Q:PV->Prop}:Tv (gD (.str x) (.str y)) Q=Q (.bl (decide (x=y))):=by rw[tv_eq,eqF_str];simp
theorem tv_neI{x y:Int}{Q:PV->Prop}:Tv (uK (.int x) (.int y)) Q=Q (.bl (!decide (x=y))):=by rw[tv_ne,eqF_int];simp
theorem tv_neS{x y:Str}{Q:PV->Prop}:Tv (uK (.str x) (.str y)) Q=Q (.bl (!decide (x=y))):=by rw[tv_ne,eqF_str];simp
theorem tv_notin{p q:PV}{Q:PV->Prop}:Tv (nC p q) Q=∃ r,inU p q=some r/\Q (.bl (!r)):=by
 refine propext ⟨?_,λ⟨r,e,k⟩=>⟨_,by unfold nC;rw[e],k⟩⟩
 rintro⟨r,e,k⟩;unfold nC at e;split at e
 ·rename_i b hb;cases e;exact⟨b,hb,k⟩
 ·cases e
theorem tv_isN{p:PV}{Q:PV->Prop}:Tv (Le p .non) Q=Q (.bl p.yO):=tv_some
theorem tv_notN{p:PV}{Q:PV->Prop}:Tv (wN p .non) Q=Q (.bl (!p.yO)):=tv_some
theorem Ac{x:Option PV}{Q:PV->Prop}:Tv (ofO x) Q=∃ p,x=some p/\Q p:=by
 refine propext ⟨?_,λ⟨p,e,k⟩=>⟨_,by subst e;rfl,k⟩⟩
 rintro⟨r,e,k⟩;obtain⟨p,e1,e2⟩:=tR e;cases e2;exact⟨_,e1,k⟩
theorem tv_ixL{l:List PV}{n:Int}{Q:PV->Prop}:Tv (aZ (.lst l) (.int n)) Q=∃ p,atI l n=some p/\Q p:=Ac
theorem tv_ixT{l:List PV}{n:Int}{Q:PV->Prop}:Tv (aZ (.tup l) (.int n)) Q=∃ p,atI l n=some p/\Q p:=Ac
theorem tv_ixV{l:List PV}{n:Int}{Q:PV->Prop}:Tv (yP l (.int n)) Q=∃ p,atI l n=some p/\Q p:=Ac
theorem tv_ixS{z:Str}{n:Int}{Q:PV->Prop}:Tv (aZ (.str z) (.int n)) Q=(z.length<=sizeLine/\∃ c,atI z.cps.toList n=some c/\Q (.str ⟨#[c]⟩)):=by
 show Tv (if z.length<=sizeLine then _ else none) Q=_
 by_cases hz:z.length<=sizeLine
 ·rw[Zan hz,Ac];simp only[hz,true_and];refine propext ⟨?_,λ⟨c,e,k⟩=>⟨_,by rw[e];rfl,k⟩⟩
  rintro⟨p,e,k⟩;cases e1:atI z.cps.toList n with
  |none=>rw[e1] at e;cases e
  |some c=>rw[e1] at e;cases e;exact⟨c,rfl,k⟩
 ·rw[Zap hz];exact propext ⟨λ⟨r,e,q⟩=>(nomatch e),λ⟨z,_⟩=>absurd z hz⟩
theorem tv_lenS{z:Str}{Q:PV->Prop}:Tv (gj (.str z)) Q=(z.length<=sizeLine/\Q (.int z.length)):=cR
theorem tv_lenL{l:List PV}{Q:PV->Prop}:Tv (gj (.lst l)) Q=Q (.int l.length):=tv_some
theorem tv_lenT{l:List PV}{Q:PV->Prop}:Tv (gj (.tup l)) Q=Q (.int l.length):=tv_some
theorem tv_is{T:String}{Q:PV->Prop}:Tv (wU p (.ty T)) Q=∃ b,isI p T=some b/\Q (.bl b):=by
 refine propext ⟨?_,λ⟨r,e,k⟩=>⟨_,by unfold wU;simp only[e],k⟩⟩
 rintro⟨r,e,k⟩;unfold wU at e;simp only at e;split at e
 ·rename_i b hb;cases e;exact⟨b,hb,k⟩
 ·cases e
theorem tv_asBl{b:Bool}{Q:Bool->Prop}:Tv (cZ (.bl b)) Q=Q b:=tv_some
theorem tv_not{b:Bool}{Q:PV->Prop}:Tv (K3 (.bl b)) Q=Q (.bl (!b)):=tv_some
theorem tv_list{l:List PV}{Q:PV->Prop}:Tv (pJ l) Q=Q (.lst l):=tv_some
theorem tv_opTup{l:List PV}{Q:PV->Prop}:Tv (yU l) Q=Q (.tup l):=tv_some
theorem tv_asSeqL{l:List PV}{Q:List PV->Prop}:Tv (mD (.lst l)) Q=Q l:=tv_some
theorem tv_asSeqT{l:List PV}{Q:List PV->Prop}:Tv (mD (.tup l)) Q=Q l:=tv_some
theorem tv_asSeqS{z:Str}{Q:List PV->Prop}:Tv (mD (.str z)) Q=Q (signs z):=tv_some
theorem tv_rng1{j:Int}{Q:List PV->Prop}:Tv (eO [.int j]) Q=((-(2^62)<=j/\j<2^62)/\Q (mF 0 j.toNat)):=cR
theorem tv_rng2{x y:Int}{Q:List PV->Prop}:Tv (wR [.int x,.int y]) Q=((-(2^62)<=x/\x<2^62/\-(2^62)<=y/\y<2^62)/\Q (mF x (y-x).toNat)):=cR
theorem tv_enum{l:List PV}{Q:List PV->Prop}:Tv (pI [.lst l]) Q=Q (pH l):=tv_some
theorem tv_pn{Q:Option Int->Prop}:Tv (mPn ρ) Q=Q none:=tv_some
theorem tv_asInt{x:Int}{Q:Option Int->Prop}:Tv (asInt (.int x)) Q=Q (some x):=tv_some
theorem tv_slL{f:Fn (List PV)}{lo hi:Fn (Option Int)}{Q:PV->Prop}:Tv (Jx f lo hi ρ) Q=Tv (f ρ) (λl=>Tv (lo ρ) (λa=>Tv (hi ρ) (λb=>Q (.lst (tU l a b))))):=by
 unfold Jx;simp only[tv_bnd,tv_some]
theorem tv_slK{f:Fn (List PV)}{lo hi st:Fn (Option Int)}{Q:PV->Prop}:Tv (OJ f lo hi st ρ) Q=Tv (f ρ) (λl=>Tv (lo ρ) (λa=>Tv (hi ρ) (λb=>Tv (st ρ) (λc=>c≠some 0/\Q (.lst (CK l a b c)))))):=by
 have ite:∀ {c:Prop} [Decidable c] {r:PV},Tv (if c then none else some (.ok r)) Q=(¬c/\Q r):=λ{c} _ {r}=>by
  by_cases h:c
  ·rw[Zan h,kO];simp[h]
  ·rw[Zap h,tv_some];simp[h]
 unfold OJ;simp only[tv_bnd,ite,ne_eq]
theorem tv_opSlS{x:Str}{a b:Option Int}{Q:PV->Prop}:Tv (Lf a b (.str x)) Q=(x.length<=sizeLine/\Q (.str (Txt.slice x a b))):=cR
theorem tv_opSlT{l:List PV}{a b:Option Int}{Q:PV->Prop}:Tv (Lg a b (.tup l)) Q=(¬(HT.sIx l.length 0 a=0/\HT.sIx l.length l.length b=l.length)/\Q (.tup (tU l a b))):=cR
theorem tv_slS{lo hi:Fn (Option Int)}{Q:PV->Prop}:Tv (Jy f lo hi ρ) Q=Tv (f ρ) (λz=>Tv (lo ρ) (λa=>Tv (hi ρ) (λb=>Tv (Lf a b z) Q))):=by
 unfold Jy;simp only[tv_bnd]
theorem tv_slT{lo hi:Fn (Option Int)}{Q:PV->Prop}:Tv (Ot f lo hi ρ) Q=Tv (f ρ) (λz=>Tv (lo ρ) (λa=>Tv (hi ρ) (λb=>Tv (Lg a b z) Q))):=by
 unfold Ot;simp only[tv_bnd]
theorem tv_opJoin{z:Str}{l:List PV}{Q:PV->Prop}:Tv (wW z l) Q=∃ ys,nF l=some ys/\(ys.map (·.length)).sum+ys.length*z.length<=16777216/\Q (.str (Txt.join z ys)):=by
 unfold wW;cases e:nF l with
 |none=>simp only;rw[kO];exact propext ⟨λh=>h.elim,λ⟨_,z,_⟩=>nomatch z⟩
 |some ys=>simp only;rw[cR];exact propext ⟨λh=>⟨ys,rfl,h⟩,λ⟨_,z,h⟩=>by cases z;exact h⟩
theorem tv_join{g:Fn (List PV)}{Q:PV->Prop}:Tv (Hu f g ρ) Q=Tv (f ρ) (λa=>∃ z,a=.str z/\Tv (g ρ) (λl=>Tv (wW z l) Q)):=by
 unfold Hu;rw[tv_bnd];congr 1;funext a
 cases a with
 |str z=>simp only;rw[tv_bnd];exact propext ⟨λh=>⟨z,rfl,h⟩,λ⟨_,e,h⟩=>by cases e;exact h⟩
 |_=>simp only;rw[kO];exact propext ⟨λh=>h.elim,λ⟨_,e,_⟩=>nomatch e⟩
theorem tv_all{l:List PV}{Q:PV->Prop}:Tv (yS l) Q=∃ bs,qy l=some bs/\Q (.bl (bs.all id)):=by
 refine propext ⟨?_,λ⟨r,e,k⟩=>⟨_,by unfold yS;rw[e],k⟩⟩
 rintro⟨r,e,k⟩;unfold yS at e;split at e
 ·rename_i b hb;cases e;exact⟨b,hb,k⟩
 ·cases e
end
section
variable{QS:Out->Prop}{Q:PV->Prop}{ρ:Rho}{i j:Nat}{f g:Fn PV}
theorem tv_consO{g:Fn (List PV)}{Q:List PV->Prop}:Tv (wZ i g ρ) Q=∃ p,ρ[i]?=some (some (.ow p))/\Tv (g ρ) (λl=>Q (p::l)):=by
 unfold wZ;cases h:ownAt i ρ with
 |none=>
  simp only;rw[kO];exact propext ⟨λh=>h.elim,λ⟨p,e,_⟩=>by unfold ownAt at h;rw[e] at h;cases h⟩
 |some p=>
  simp only;rw[tv_bnd];simp only[tv_some];exact propext ⟨λq=>⟨p,cV h,q⟩,λ⟨p',e,q⟩=>by rw[cV h] at e;cases e;exact q⟩
theorem to_io{m:List PV->Option (Res PV)}{f:Fn (List PV)}:To (mIO i m f ρ) QS=∃ p,ρ[i]?=some (some (.ow p))/\Tv (f ρ) (λl=>Tv (m l) (λp'=>QS (.nx (ρ.set i (some (.ow p')))))):=by
 unfold mIO;cases h:ownAt i ρ with
 |none=>
  simp only;rw[Ab];exact propext ⟨λh=>h.elim,λ⟨p,e,_⟩=>by unfold ownAt at h;rw[e] at h;cases h⟩
 |some p=>
  simp only;rw[to_bnd];refine propext ⟨λ⟨l,e,q⟩=>⟨p,cV h,l,e,?_⟩,λ⟨p',_,l,e,p2,e2,q⟩=>⟨l,e,?_⟩⟩
  ·obtain⟨o,eo,c,q⟩:=q;split at eo
   ·rename_i p' hp;cases eo;exact⟨_,hp,q⟩
   ·cases eo
  ·exact⟨.nx _,by rw[e2],trivial,q⟩
theorem Mm{x:Option Out}{P:PV->Prop}(h:To x λo=>∃ p,CN j (some o)=some (.ok p)/\P p):∃ p,CN j x=some (.ok p)/\P p:=by
 obtain⟨o,e,_,q⟩:=h;rw[e];exact q
theorem finIO_nx{p:PV}:(CN j (some (.nx ρ))=some (.ok p))=(ρ[j]?=some (some (.ow p))):=by
 show((match ownAt j ρ with|some p=>some (Res.ok p)|none=>none)=some (.ok p))=_
 cases h:ownAt j ρ with
 |none=>exact propext ⟨λe=>(nomatch e),λe=>by unfold ownAt at h;rw[e] at h;cases h⟩
 |some q=>exact propext ⟨λe=>by cases e;exact cV h,λe=>by rw[cV h] at e;cases e;rfl⟩
theorem to_never:To (zU ρ) QS=False:=Ab
end
def turn(I:Rho->Prop)(QS:Out->Prop):Out->Prop
 |.nx ρ=>I ρ
 |.ct ρ=>I ρ
 |.bk ρ=>QS (.nx ρ)
 |o=>QS o
theorem turn_nx{I:Rho->Prop}{QS:Out->Prop}{ρ:Rho}:turn I QS (.nx ρ)=I ρ:=rfl
theorem turn_ct{I:Rho->Prop}{QS:Out->Prop}{ρ:Rho}:turn I QS (.ct ρ)=I ρ:=rfl
theorem turn_bk{I:Rho->Prop}{QS:Out->Prop}{ρ:Rho}:turn I QS (.bk ρ)=QS (.nx ρ):=rfl
theorem turn_rt{I:Rho->Prop}{QS:Out->Prop}{p:PV}:turn I QS (.rt p)=QS (.rt p):=rfl
theorem turn_ro{I:Rho->Prop}{QS:Out->Prop}{p:PV}:turn I QS (.ro p)=QS (.ro p):=rfl
theorem turn_rd{I:Rho->Prop}{QS:Out->Prop}{p:PV}:turn I QS (.rd p)=QS (.rd p):=rfl
theorem vU{tg:PV->Rho->Option Rho}{body:Sn}{QS:Out->Prop}(I:Nat->Rho->Prop):∀ {l:List PV}{ρ:Rho},I 0 ρ ->
  (∀ (i:Nat) x ρ,l[i]?=some x->I i ρ->∃ ρ1,tg x ρ=some ρ1/\To (body ρ1) (turn (I (i+1)) QS)) ->
  (∀ ρ',I l.length ρ'->QS (.nx ρ'))->To (loop tg body l ρ) QS:=by
 intro l;induction l generalizing I with
 |nil=>exact λh0 _ hd=>⟨_,rfl,trivial,hd _ h0⟩
 |cons x xs ih=>
  intro ρ h0 hs hd;obtain⟨ρ1,e1,o,e2,c,q⟩:=hs 0 x ρ rfl h0;unfold To;rw[loop,e1];simp only[e2];cases o with
  |nx ρ2=>exact ih (λi=>I (i+1)) q (λi y ρ e=>hs (i+1) y ρ (by simpa using e)) hd
  |ct ρ2=>exact ih (λi=>I (i+1)) q (λi y ρ e=>hs (i+1) y ρ (by simpa using e)) hd
  |bk ρ2=>exact⟨_,rfl,trivial,q⟩
  |rt p=>exact⟨_,rfl,trivial,q⟩
  |ro p=>exact⟨_,rfl,trivial,q⟩
  |rd p=>exact⟨_,rfl,trivial,q⟩
  |ex z=>exact c.elim
theorem pM{x:Option Out}{I:Rho->Prop}{Q:Out->Prop}(h:∀ QS:Out->Prop,(∀ ρ,I ρ->QS (.nx ρ))->To x QS):To x (turn I Q):=h _ λ_ h=>h
theorem QV{x:Option Out}{I:Rho->Prop}{Q:Out->Prop}(h:∀ QS:Out->Prop,(∀ ρ,I ρ->QS (.nx ρ))->(∀ ρ,I ρ->QS (.ct ρ))->(∀ p,Q (.rt p)->QS (.rt p))->(∀ p,Q (.ro p)->QS (.ro p))->(∀ p,Q (.rd p)->QS (.rd p))->To x QS):To x (turn I Q):=h _ (λ_ h=>h) (λ_ h=>h) (λ_ h=>h) (λ_ h=>h) λ_ h=>h
theorem kW{x:Option Out}{Q:Out->Prop}(h:∀ QS:Out->Prop,(∀ o,Q o->QS o)->To x QS):To x Q:=h _ λ_ h=>h
theorem dh{j:Nat}{body:Sn}{QS:Out->Prop}(I:Nat->Rho->Prop){l:List PV}{ρ:Rho}(h0:I 0 ρ)
  (hs:∀ (i:Nat) x ρ,l[i]?=some x->I i ρ->To (body (ρ.set j (some (.sh x)))) (turn (I (i+1)) QS))(hd:∀ ρ',I l.length ρ'->QS (.nx ρ')):To (loop (gN j) body l ρ) QS:=
 vU I h0 (λi x ρ e hI=>⟨_,rfl,hs i x ρ e hI⟩) hd
theorem pN{a b:Nat}{body:Sn}{QS:Out->Prop}(I:Nat->Rho->Prop){l:List PV}{ρ:Rho}(h0:I 0 ρ)
  (hs:∀ (i:Nat) x ρ,l[i]?=some x->I i ρ->To (body ((ρ.set a (some (.sh (.int i)))).set b (some (.sh x)))) (turn (I (i+1)) QS))(hd:∀ ρ',I l.length ρ'->QS (.nx ρ')):To (loop (gT 2 (gsCons (gN a) (gsCons (gN b) gsNil))) body (pH l) ρ) QS:=by
 have hl:(pH l).length=l.length:=by simp[pH]
 refine vU I h0 (λi x ρ e hI=>?_) λρ'=>by rw[hl];exact hd ρ'
 unfold pH at e;rw[List.getElem?_mapIdx] at e;cases h:l[i]? with
 |none=>rw[h] at e;cases e
 |some y=>
  rw[h] at e;cases e;exact⟨_,rfl,hs i y ρ h hI⟩
theorem Mp{a b:Nat}{body:Sn}{QS:Out->Prop}(I:Nat->Rho->Prop){l:List (PV×PV)}{ρ:Rho}(h0:I 0 ρ)
  (hs:∀ (i:Nat) x y ρ,l[i]?=some (x,y)->I i ρ->To (body ((ρ.set a (some (.sh x))).set b (some (.sh y)))) (turn (I (i+1)) QS))(hd:∀ ρ',I l.length ρ'->QS (.nx ρ')):To (loop (gT 2 (gsCons (gN a) (gsCons (gN b) gsNil))) body (l.map λc=>.tup [c.1,c.2]) ρ) QS:=by
 refine vU I h0 (λi x ρ e hI=>?_) λρ'=>by rw[List.length_map];exact hd ρ'
 rw[Zac] at e;cases h:l[i]? with
 |none=>rw[h] at e;cases e
 |some y=>
  rw[h] at e;cases e;exact⟨_,rfl,hs i y.1 y.2 ρ h hI⟩
theorem dY{x:Option Out}{r:Res PV}(h:To x λo=>fin (some o)=some r):fin x=some r:=by
 obtain⟨o,e,_,q⟩:=h;rw[e];exact q
theorem qD{x:Option Out}{r:Res PV}(h:To x λo=>rY (some o)=some r):rY x=some r:=by
 obtain⟨o,e,_,q⟩:=h;rw[e];exact q
theorem pO{x:Option Out}{P:PV->Prop}(h:To x λo=>∃ p,fin (some o)=some (.ok p)/\P p):∃ p,fin x=some (.ok p)/\P p:=by
 obtain⟨o,e,_,q⟩:=h;rw[e];exact q
theorem Ad{x:Option Out}{P:PV->Prop}(h:To x λo=>∃ p,rY (some o)=some (.ok p)/\P p):∃ p,rY x=some (.ok p)/\P p:=by
 obtain⟨o,e,_,q⟩:=h;rw[e];exact q
theorem fin_nx{ρ:Rho}:fin (some (.nx ρ))=some (.ok .non):=rfl
theorem fin_rt{p:PV}:fin (some (.rt p))=some (.ok p):=rfl
theorem finO_ro{p:PV}:rY (some (.ro p))=some (.ok p):=rfl
theorem xq{tg:PV->Rho->Option Rho}{tst:Fn Bool}{el:Fn PV}{ρb:Rho}(t:PV->Bool)(f:PV->PV):∀ (l:List PV),
  (∀ x∈l,∃ ρ1,tg x ρb=some ρ1/\tst ρ1=some (.ok (t x))/\(t x=true->el ρ1=some (.ok (f x))))->d7 tg tst el ρb l=some (.ok ((l.filter t).map f))
 |[],_=>rfl
 |x::xs,h=>by
  obtain⟨ρ1,e1,e2,e3⟩:=h x List.mem_cons_self;have ih:=xq t f xs λy hy=>h y (List.mem_cons_of_mem _ hy);rw[d7,e1];simp only[e2,bnd];cases ht:t x with
  |true=>rw[Zan rfl,e3 ht];simp only[ih,List.filter_cons,ht,Za7,Zai]
  |false=>rw[Zap (by decide)];simp only[ih,List.filter_cons,ht,Bool.false_eq_true,ZaT]
theorem JG{tg:PV->Rho->Option Rho}{el:Fn PV}{ρb:Rho}(f:PV->PV)(l:List PV)(h:∀ x∈l,∃ ρ1,tg x ρb=some ρ1/\el ρ1=some (.ok (f x))):d7 tg mG el ρb l=some (.ok (l.map f)):=by
 have:=xq (tg:=tg) (tst:=mG) (el:=el) (ρb:=ρb) (λ_=>true) f l λx hx=>let⟨ρ1,a,b⟩:=h x hx;⟨ρ1,a,rfl,λ_=>b⟩
 rwa [List.filter_eq_self.mpr λ_ _=>rfl] at this
theorem tv_compN{tg:PV->Rho->Option Rho}{tst:Fn Bool}{el:Fn PV}{ρb:Rho}{Q:List PV->Prop}:Tv (d7 tg tst el ρb []) Q=Q []:=tv_some
theorem tv_compC{j:Nat}{tst:Fn Bool}{el:Fn PV}{ρb:Rho}{x:PV}{xs:List PV}{Q:List PV->Prop}:Tv (d7 (gN j) tst el ρb (x::xs)) Q =
  Tv (tst (ρb.set j (some (.sh x)))) (λb=>if b=true then Tv (el (ρb.set j (some (.sh x)))) (λp=>Tv (d7 (gN j) tst el ρb xs) (λr=>Q (p::r))) else Tv (d7 (gN j) tst el ρb xs) Q):=by
 rw[d7];simp only[gN,tv_bnd,tv_ite,tv_some]
theorem tv_yes{ρ:Rho}{Q:Bool->Prop}:Tv (mG ρ) Q=Q true:=tv_some
theorem j4{α:Type}{x:Option (Res α)}{q:α}(h:Tv x λp=>p=q):x=some (.ok q):=by
 obtain⟨p,e,rfl⟩:=h;exact e
theorem QW{j:Nat}{el:Fn PV}{ρb:Rho}{l:List PV}(f:PV->PV)(h:∀ x∈l,Tv (el (ρb.set j (some (.sh x)))) λp=>p=f x):d7 (gN j) mG el ρb l=some (.ok (l.map f)):=
 JG f l λx hx=>⟨_,rfl,j4 (h x hx)⟩
def szP(w h:Int):PV:=.tup [.int w,.int h]
def cellP(c:Int×Int):PV:=.tup [.int c.1,.int c.2]
theorem snocI(l:List Int)(a:Int):l.map PV.int++[PV.int a]=(l++[a]).map PV.int:=by rw[ZaN];rfl
theorem snocS(l:List Str)(a:Str):l.map PV.str++[PV.str a]=(l++[a]).map PV.str:=by rw[ZaN];rfl
theorem snocC(l:List (Int×Int))(a b:Int):l.map cellP++[PV.tup [.int a,.int b]]=(l++[(a,b)]).map cellP:=by rw[ZaN];rfl
theorem is_non_int:isI .non "int"=some false:=rfl
theorem is_non_bool:isI .non "bool"=some false:=rfl
theorem is_non_str:isI .non "str"=some false:=rfl
theorem is_non_list:isI .non "list"=some false:=rfl
theorem is_non_tuple:isI .non "tuple"=some false:=rfl
theorem is_non_dict:isI .non "dict"=some false:=rfl
theorem is_bl_int{b:Bool}:isI (.bl b) "int"=some true:=rfl
theorem is_bl_bool{b:Bool}:isI (.bl b) "bool"=some true:=rfl
theorem is_bl_str{b:Bool}:isI (.bl b) "str"=some false:=rfl
theorem is_bl_list{b:Bool}:isI (.bl b) "list"=some false:=rfl
theorem is_bl_tuple{b:Bool}:isI (.bl b) "tuple"=some false:=rfl
theorem is_bl_dict{b:Bool}:isI (.bl b) "dict"=some false:=rfl
theorem is_int_int{i:Int}:isI (.int i) "int"=some true:=rfl
theorem is_int_bool{i:Int}:isI (.int i) "bool"=some false:=rfl
theorem is_int_str{i:Int}:isI (.int i) "str"=some false:=rfl
theorem is_int_list{i:Int}:isI (.int i) "list"=some false:=rfl
theorem is_int_tuple{i:Int}:isI (.int i) "tuple"=some false:=rfl
theorem is_int_dict{i:Int}:isI (.int i) "dict"=some false:=rfl
theorem is_str_int{z:Str}:isI (.str z) "int"=some false:=rfl
theorem is_str_bool{z:Str}:isI (.str z) "bool"=some false:=rfl
theorem is_str_str{z:Str}:isI (.str z) "str"=some true:=rfl
theorem is_str_list{z:Str}:isI (.str z) "list"=some false:=rfl
theorem is_str_tuple{z:Str}:isI (.str z) "tuple"=some false:=rfl
theorem is_str_dict{z:Str}:isI (.str z) "dict"=some false:=rfl
theorem is_tup_int{l:List PV}:isI (.tup l) "int"=some false:=rfl
theorem is_tup_bool{l:List PV}:isI (.tup l) "bool"=some false:=rfl
theorem is_tup_str{l:List PV}:isI (.tup l) "str"=some false:=rfl
theorem is_tup_list{l:List PV}:isI (.tup l) "list"=some false:=rfl
theorem is_tup_tuple{l:List PV}:isI (.tup l) "tuple"=some true:=rfl
theorem is_tup_dict{l:List PV}:isI (.tup l) "dict"=some false:=rfl
theorem is_lst_int{l:List PV}:isI (.lst l) "int"=some false:=rfl
theorem is_lst_bool{l:List PV}:isI (.lst l) "bool"=some false:=rfl
theorem is_lst_str{l:List PV}:isI (.lst l) "str"=some false:=rfl
theorem is_lst_list{l:List PV}:isI (.lst l) "list"=some true:=rfl
theorem is_lst_tuple{l:List PV}:isI (.lst l) "tuple"=some false:=rfl
theorem is_lst_dict{l:List PV}:isI (.lst l) "dict"=some false:=rfl
theorem HS{α:Type}{f:PV->PV->Option Bool}{g:α->PV}[DecidableEq α](h:∀ a b,f (g a) (g b)=some (decide (a=b))):∀ l m:List α,eqL f (l.map g) (m.map g)=some (decide (l=m))
 |[],[]=>rfl
 |[],_::_=>rfl
 |_::_,[]=>rfl
 |x::xs,y::ys=>by
  rw[Zai,Zai,eqL,h x y,HS h xs ys];simp only[List.cons.injEq,Bool.decide_and]
theorem Pj{α:Type}{n:Nat}{g:α->PV}[DecidableEq α](h:∀ a b,eqF n (g a) (g b)=some (decide (a=b)))(l m:List α):eqF (n+1) (.lst (l.map g)) (.lst (m.map g))=some (decide (l=m)):=by
 show(if(l.map g).length=(m.map g).length then eqL (eqF n) (l.map g) (m.map g) else some false)=_
 by_cases hl:l.length=m.length
 ·rw[Zan (by simpa using hl)]
  exact HS h l m
 ·rw[Zap (by simpa using hl),Zay λe=>hl (by rw[e])]
theorem Dj{α:Type}{g:α->PV}[DecidableEq α](h:∀ a b,eqF 31 (g a) (g b)=some (decide (a=b)))(a:α):∀ l:List α,inF (g a) (l.map g)=some (decide (a∈l))
 |[]=>rfl
 |x::xs=>by
  rw[Zai,inF,h x a,Dj h a xs];simp only[Zao,Bool.decide_or];congr 2
  exact decide_eq_decide.mpr ⟨λe=>e.symm,λe=>e.symm⟩
theorem HW{α:Type}{g:α->PV}[DecidableEq α](h:∀ a b,eqF 31 (g a) (g b)=some (decide (a=b)))(a:α)(l:List α)[Decidable (a∈l)]:inF (g a) (l.map g)=some (decide (a∈l)):=by
 rw[Dj h a l];congr 1
 exact decide_eq_decide.mpr Iff.rfl
theorem Pk{α β:Type}(f:α->β)(l:List α)(i:Int):atI (l.map f) i=(atI l i).map f:=by
 unfold atI;rw[List.length_map];cases ixN l.length i<;>simp
theorem fP{ns:List Int}{i:Int}(h0:0<=i)(h:i<ns.length):atI (ns.map PV.int) i=some (.int (ns.getD i.toNat 0)):=by
 obtain⟨v,e1,e2⟩:=BX (xs:=ns.map PV.int) h0 (by rw[List.length_map];exact h)
 rw[e1];rw[Zac] at e2;have hl:i.toNat<ns.length:=by lia
 rw[Zab hl] at e2;rw[ZaG,Zab hl];exact e2.symm
theorem atI_0{p:PV}{l:List PV}:atI (p::l) 0=some p:=cP (j:=0) rfl
theorem atI_1{p q:PV}{l:List PV}:atI (p::q::l) 1=some q:=cP (j:=1) rfl
theorem atI_2{p q r:PV}{l:List PV}:atI (p::q::r::l) 2=some r:=cP (j:=2) rfl
theorem atI_3{p q r s:PV}{l:List PV}:atI (p::q::r::s::l) 3=some s:=cP (j:=3) rfl
theorem Pn(ns:List Int)(lo hi:Option Int):∃ ms:List Int,tU (ns.map PV.int) lo hi=ms.map PV.int/\ms.length<=ns.length:=by
 refine⟨(ns.drop (HT.sIx ns.length 0 lo)).take (HT.sIx ns.length ns.length hi-HT.sIx ns.length 0 lo),?_,?_⟩
 ·unfold tU;rw[List.length_map,List.map_take,List.map_drop]
 ·rw[Za6,List.length_drop];omega
theorem Pq{α:Type}{l:List α}{i:Int}{v:α}(h0:0<=i)(h:l[i.toNat]?=some v):atI l i=some v:=by
 have:=cP h
 rwa [ZaA h0] at this
def ofL(l:List Nat):Str:=⟨l.toArray⟩
theorem gW(l:List Nat):(ofL l).length=l.length:=List.size_toArray ..
def Dk(c:Nat):List (List Nat)->List Nat
 |[]=>[]
 |[r]=>r
 |r::q::rs=>r++c::Dk c (q::rs)
theorem HX(c:Nat):∀ (ys:List Str) (acc:Array Nat),(ys.foldl (λacc p=>acc++(⟨#[c]⟩:Str).cps++p.cps) acc).toList=acc.toList++(ys.map λy=>c::y.cps.toList).flatten
 |[],acc=>by simp
 |y::ys,acc=>by
  rw[List.foldl_cons,HX c ys];simp
theorem xr(c:Nat)(r:List Nat):∀ (rs:List (List Nat)),Dk c (r::rs)=r++(rs.map λy=>c::y).flatten
 |[]=>by simp[Dk]
 |q::rs=>by
  rw[Dk,xr c q rs];simp
theorem join_list(c:Nat)(ys:List Str):(Txt.join ⟨#[c]⟩ ys).cps.toList=Dk c (ys.map λy=>y.cps.toList):=by
 cases ys with
 |nil=>rfl
 |cons y ys=>
  rw[Zai,xr,List.map_map];show((ys.foldl (λacc p=>acc++(⟨#[c]⟩:Str).cps++p.cps) y.cps)).toList=_
  rw[HX];rfl
theorem tv_newD{ρ:Rho}{Q:PV->Prop}:Tv (CT ρ) Q=Q (.dk []):=tv_some
theorem is_dk_int{l:List (Key×PV)}:isI (.dk l) "int"=some false:=rfl
theorem is_dk_str{l:List (Key×PV)}:isI (.dk l) "str"=some false:=rfl
theorem tv_neg{i:Int}{Q:PV->Prop}:Tv (CJ (.int i)) Q=Q (.int (-i)):=tv_some
section
variable{ρ:Rho}{f g h:Fn PV}{i:Nat}{Q:PV->Prop}{QS:Out->Prop}{d k x p:PV}{l:List PV}
theorem Mq:Tv (asD p) Q=(p.isD=true/\Q p):=cR
theorem tv_viewD:Tv (zW f ρ) Q=Tv (f ρ) (λp=>p.isD=true/\Q p):=by unfold zW;rw[tv_bnd];simp only[Mq]
theorem tv_viewDN:Tv (iK i ρ) Q=Tv (mVL i ρ) (λp=>p.isD=true/\Q p):=by unfold iK;rw[tv_bnd];simp only[Mq]
theorem HY{α:Type}{o:Option α}{F:α->PV}:Tv (o.map λr=>Res.ok (F r)) Q=∃ r,o=some r/\Q (F r):=by
 cases o with
 |none=>exact propext ⟨(λ⟨_,e,_⟩=>by cases e),(λ⟨_,e,_⟩=>by cases e)⟩
 |some r=>exact propext ⟨λ⟨_,e,q⟩=>by cases e;exact⟨r,rfl,q⟩,λ⟨_,e,q⟩=>by cases e;exact⟨_,rfl,q⟩⟩
theorem tv_dget2:Tv (su f g h ρ) Q=Tv (f ρ) (λd=>Tv (g ρ) (λk=>Tv (h ρ) (λx=>∃ r,oE d k=some r/\Q (r.getD x)))):=by
 unfold su;simp only[tv_bnd,HY]
theorem tv_opDGet:Tv (sr d k) Q=∃ p,oE d k=some (some p)/\Q p:=by
 unfold sr;split
 ·rename_i p h;rw[h,tv_some];exact propext ⟨λq=>⟨p,rfl,q⟩,λ⟨_,e,q⟩=>by cases e;exact q⟩
 ·rename_i h;rw[kO];exact propext ⟨λz=>z.elim,λ⟨p,e,_⟩=>(h p e).elim⟩
theorem tv_opDNotIn:Tv (pL k d) Q=∃ r,oE d k=some r/\Q (.bl (!r.isSome)):=by unfold pL;rw[HY]
theorem tv_dictP:Tv (qz d l) Q=∃ ps d',gV l=some ps/\fH d ps=some d'/\Q d':=by
 unfold qz;split
 ·rename_i ps h;rw[h];refine propext ⟨?_,?_⟩
  ·rintro⟨r,e,q⟩;cases h2:fH d ps with
   |none=>rw[h2] at e;cases e
   |some d'=>rw[h2] at e;cases e;exact⟨ps,_,rfl,h2,q⟩
  ·rintro⟨ps',d',e1,e2,q⟩;cases e1;exact⟨d',by rw[e2];rfl,q⟩
 ·rename_i h;rw[kO];exact propext ⟨λz=>z.elim,λ⟨ps,_,e,_⟩=>by rw[h] at e;cases e⟩
theorem tv_dictT:Tv (zZ d (.tup l)) Q=∃ ps d',gV l=some ps/\fH d ps=some d'/\Q d':=tv_dictP
theorem tv_newT:Tv (LC ρ) Q=Q (.dt []):=tv_some
theorem tv_divL{x y:Int}:Tv (z6 (.int x) (.int y)) Q=((0<y/\y.natAbs.log2<9000)/\Q (.int (x/y))):=by unfold z6;rw[j0];simp[QQ]
theorem tv_inv{j:Int}:Tv (LQ (.int j)) Q=Q (.int (Builtin.bitNot j)):=tv_some
theorem to_dput:To (xj i f g ρ) QS=Tv (f ρ) (λp=>∃ d,ρ[i]?=some (some (.ow d))/\Tv (g ρ) (λk=>∃ d',zX d k p=some d'/\QS (.nx (ρ.set i (some (.ow d')))))):=by
 unfold xj;rw[to_bnd];congr 1;funext p
 refine propext ⟨?_,?_⟩
 ·rintro⟨r,e,c,q⟩;split at e
  ·rename_i d hd;refine⟨d,cV hd,?_⟩;rcases gf e with⟨z,e1,rfl⟩|⟨k,e1,e2⟩
   ·exact c.elim
   ·split at e2
    ·rename_i d' h';cases e2;exact⟨k,e1,d',h',q⟩
    ·cases e2
  ·cases e
 ·rintro⟨d,e,k,e1,d',h1,q⟩;refine⟨.nx (ρ.set i (some (.ow d'))),?_,trivial,q⟩;have eo:ownAt i ρ=some d:=by unfold ownAt;rw[e]
  rw[eo];simp only[e1,Ol,h1]
end
section
variable{l:List (Key×PV)}{t:List (List Key×PV)}{ks:List PV}{n:Int}{z:Str}{p:PV}
theorem dF_int:oE (.dk l) (.int n)=some (gU l (.inl n)):=rfl
theorem dF_str:oE (.dk l) (.str z)=some (gU l (.inr z)):=rfl
theorem dF_tup:oE (.dt t) (.tup ks)=(ju ks).map (gU t):=rfl
theorem Ae:zX (.dk l) (.int n) p=if l.length<sizeLine then some (.dk (je l (.inl n) p)) else none:=rfl
theorem Sg:zX (.dk l) (.str z) p=if l.length<sizeLine then some (.dk (je l (.inr z) p)) else none:=rfl
theorem isD_dk:(PV.dk l).isD=true:=rfl
theorem isD_dt:(PV.dt t).isD=true:=rfl
end
section
variable{κ:Type}[DecidableEq κ]
theorem mL(k j:κ)(p:PV):∀ l:List (κ×PV),gU (je l k p) j=if j=k then some p else gU l j
 |[]=>by
  unfold je gU;by_cases h:k=j
  ·rw[Zan h,Zan h.symm]
  ·rw[Zap h,Zap (Za0 h)];rfl
 |(a,q)::l=>by
  have ih:=mL k j p l;unfold je;by_cases h:a=k
  ·rw[Zan h];subst h;unfold gU;by_cases h2:a=j
   ·rw[Zan h2,Zan h2.symm]
   ·rw[Zap h2,Zap (Za0 h2),Zap h2];split
    ·rw[ih,Zap (Za0 h2)]
    ·rfl
  ·rw[Zap h];unfold gU;by_cases h2:a=j
   ·rw[Zan h2,Zan h2,Zap (λz=>h (h2.trans z))]
   ·rw[Zap h2,Zap h2,ih]
theorem pP(k:κ)(p:PV):∀ l:List (κ×PV),(je l k p).length<=l.length+1
 |[]=>by simp[je]
 |(a,q)::l=>by
  have ih:=pP k p l;unfold je;split
  ·split
   ·simp only[ZaP];lia
   ·simp only[ZaP];lia
  ·simp only[ZaP];lia
end
section
variable{f:Fn PV}{ρ:Rho}{Q:PV->Prop}{QS:Out->Prop}{i:Nat}{p:PV}
theorem tv_deep:Tv (yX f ρ) Q=Tv (f ρ) (λp=>∃ l,p=.lst l/\l.all PV.still=true/\Q (.lst l)):=by
 unfold yX;rw[tv_bnd];congr 1;funext p
 refine propext ⟨?_,?_⟩
 ·rintro⟨r,e,q⟩;cases p with
  |lst l=>
   have e:(if l.all PV.still=true then some (Res.ok (PV.lst l)) else none)=some (.ok r):=e;split at e
   ·rename_i h;cases e;exact⟨l,rfl,h,q⟩
   ·cases e
  |_=>cases e
 ·rintro⟨l,rfl,h,q⟩;exact⟨_,Zan h,q⟩
theorem to_setD:To (HB i f ρ) QS=Tv (f ρ) (λp=>QS (.nx (ρ.set i (some (.dp p))))):=by unfold HB;simp only[to_bnd,to_nx]
theorem to_retD:To (HD f ρ) QS=Tv (f ρ) (λp=>QS (.rd p)):=by unfold HD;simp only[to_bnd,to_rd]
theorem to_retDp:To (uP i ρ) QS=∃ p,ρ[i]?=some (some (.dp p))/\QS (.rd p):=by
 refine propext ⟨?_,λ⟨p,e,q⟩=>⟨.rd p,by unfold uP yl;rw[e],trivial,q⟩⟩
 rintro⟨r,e,c,q⟩;unfold uP at e;split at e
 ·rename_i p hp;cases e;exact⟨p,kJ hp,q⟩
 ·cases e
theorem finT_rd:Df (some (.rd p))=some (.ok p):=rfl
theorem Pu{x:Option Out}{r:Res PV}(h:To x λo=>Df (some o)=some r):Df x=some r:=by
 obtain⟨o,e,_,q⟩:=h;rw[e];exact q
theorem Px{x:Option Out}{P:PV->Prop}(h:To x λo=>∃ p,Df (some o)=some (.ok p)/\P p):∃ p,Df x=some (.ok p)/\P p:=by
 obtain⟨o,e,_,q⟩:=h;rw[e];exact q
end
section
variable{f:Fn PV}{ρ:Rho}{Q:PV->Prop}{QS:Out->Prop}{i:Nat}{p:PV}
theorem tv_dkeys{l:List (Key×PV)}{Q:List PV->Prop}:Tv (z8 (.dk l)) Q=Q (xn l):=tv_some
theorem tv_holdE:Tv (uR i f ρ) Q=∃ p,ρ[i]?=some (some (.sh p))/\p.isD=true/\Tv (f ρ) Q:=by
 refine propext ⟨?_,λ⟨p,e,d,r,e2,q⟩=>⟨r,by unfold uR;rw[e];simp only;rw[Zan d];exact e2,q⟩⟩
 rintro⟨r,e,q⟩;unfold uR at e;split at e
 ·rename_i p hp;split at e
  ·rename_i d;exact⟨p,hp,d,r,e,q⟩
  ·cases e
 ·cases e
def Mr(QS:Out->Prop):Out->Prop
 |.rd _=>False
 |o=>QS o
theorem holdQ_nx:Mr QS (.nx ρ)=QS (.nx ρ):=rfl
theorem holdQ_rt:Mr QS (.rt p)=QS (.rt p):=rfl
theorem holdQ_ro:Mr QS (.ro p)=QS (.ro p):=rfl
end
def nG:Sn:=
 (dB (tO (m2 wU (mVL 0) (mC (.ty "int"))) (m1 K3 (m2 wU (mVL 0) (mC (.ty "bool"))))))
def iC:List PV->Option (Res PV)
 |[a0]=>fin (nG (startR [a0] 0))
 |_=>none
def sI:Sn:=
 (dB (m2 b7 (m2 gh (m2 aZ (mV 1) (mC (.int 1))) (m2 aZ (mV 0) (mC (.int 0)))) (m2 aZ (mV 1) (mC (.int 0)))))
def iD:List PV->Option (Res PV)
 |[a0,a1]=>fin (sI (startR [a0,a1] 0))
 |_=>none
def sJ:Sn:=
 (dB (m2 gD (m2 wM (m2 Cu (mV 1) (bU iD (aJ (mV 0) (aJ (mV 2) bA)))) (mC (.int 1))) (mC (.int 1))))
def nH:List PV->Option (Res PV)
 |[a0,a1,a2]=>fin (sJ (startR [a0,a1,a2] 0))
 |_=>none
def tX:Sn:=
 (dB (m2 qW (m2 vf (mC (.int 1)) (m2 gh (m2 aZ (mV 0) (mC (.int 0))) (m2 aZ (mV 0) (mC (.int 1))))) (mC (.int 1))))
def tY:List PV->Option (Res PV)
 |[a0]=>fin (tX (startR [a0] 0))
 |_=>none
def xu:Sn:=
 (cI (m2 Oo (mV 2) (m2 vf (mC (.int 1)) (bU iD (aJ (mV 0) (aJ (mV 3) bA))))) (gN 2))
def xx:Sn:=
 (dB (mV 2))
def xF:Sn:=
 (bD (cI (mC (.int 0)) (gN 2))
   (bD (jc (m1 mD (mV 1)) (gN 3)
    xu)
   xx))
def tZ:List PV->Option (Res PV)
 |[a0,a1]=>fin (xF (startR [a0,a1] 2))
 |_=>none
def qF:Sn:=
 (dB (lV (aJ (m1 gj (m2 aZ (mV 0) (mC (.int 0)))) (aJ (m1 gj (mVL 0)) bA))))
def qG:List PV->Option (Res PV)
 |[a0]=>fin (qF (startR [a0] 0))
 |_=>none
def ym:Sn:=
 (dB (mC (.bl false)))
def yo:Sn:=
 (dB (mC (.bl false)))
def qX:Sn:=
 (dB (tO (m1 yS (pK (gG (m1 mD (Ot (mV 0) (m1 asInt (mC (.int 1))) mPn)) [none] (gN 0) mG (bU iC (aJ (mV 0) bA))))) (m2 Ju (m2 aZ (mV 0) (mC (.int 2))) (m2 aZ (mV 0) (mC (.int 3))))))
def qY:Sn:=
 (bD (eY (mOr (wJ (m1 cZ (m2 wU (m2 aZ (mV 0) (mC (.int 0))) (mC (.ty "str"))))) (m1 cZ (m2 nC (m2 aZ (mV 0) (mC (.int 0))) (lV (aJ (mC (.str "row")) (aJ (mC (.str "column")) bA))))))
    yo
    dR)
   qX)
def kY:Sn:=
 (bD (eY (mOr (wJ (m1 cZ (m2 wU (mVL 0) (mC (.ty "tuple"))))) (m1 cZ (m2 uK (m1 gj (mVL 0)) (mC (.int 4)))))
    ym
    dR)
   qY)
def kZ:List PV->Option (Res PV)
 |[a0]=>fin (kY (startR [a0] 0))
 |_=>none
def nJ:Sn:=
 (dB (mIf (m1 cZ (m2 gD (mVL 1) (mC (.str "row")))) (m2 aZ (mV 0) (mC (.int 1))) (m2 aZ (mV 0) (mC (.int 0)))))
def nM:List PV->Option (Res PV)
 |[a0,a1]=>fin (nJ (startR [a0,a1] 0))
 |_=>none
def lg:Sn:=
 (dB (mIf (m1 cZ (m2 gD (mVL 1) (mC (.str "row")))) (m2 aZ (mV 0) (mC (.int 0))) (m2 aZ (mV 0) (mC (.int 1)))))
def lq:List PV->Option (Res PV)
 |[a0,a1]=>fin (lg (startR [a0,a1] 0))
 |_=>none
def Dl:Sn:=
 (dB (mC (.bl false)))
def vg:Sn:=
 (dB (tO (zK Ju zP (mC (.int 0)) (m2 aZ (mV 1) (mC (.int 1))) (bU nM (aJ (mV 0) (aJ (m2 aZ (mV 1) (mC (.int 0))) bA)))) (tO (m2 Ju (mC (.int 0)) (m2 aZ (mV 1) (mC (.int 2)))) (m2 zP (m2 aZ (mV 1) (mC (.int 3))) (bU lq (aJ (mV 0) (aJ (m2 aZ (mV 1) (mC (.int 0))) bA)))))))
def qH:Sn:=
 (bD (eY (wJ (m1 cZ (bU kZ (aJ (mV 1) bA))))
    Dl
    dR)
   vg)
def qI:List PV->Option (Res PV)
 |[a0,a1]=>fin (qH (startR [a0,a1] 0))
 |_=>none
def mO:Sn:=
 (wL (gG (m1 wR (aJ (m2 aZ (mV 0) (mC (.int 2))) (aJ (m2 b7 (m2 aZ (mV 0) (mC (.int 3))) (mC (.int 1))) bA))) [none,some 0] (gN 0) mG (lV (aJ (mV 0) (aJ (m2 aZ (mV 1) (mC (.int 1))) bA)))))
def mQ:Sn:=
 (wL (gG (m1 wR (aJ (m2 aZ (mV 0) (mC (.int 2))) (aJ (m2 b7 (m2 aZ (mV 0) (mC (.int 3))) (mC (.int 1))) bA))) [none,some 0] (gN 0) mG (lV (aJ (m2 aZ (mV 1) (mC (.int 1))) (aJ (mV 0) bA)))))
def gY:Sn:=
 (bD (eY (m1 cZ (m2 gD (m2 aZ (mV 0) (mC (.int 0))) (mC (.str "row"))))
    mO
    dR)
   mQ)
def gZ:List PV->Option (Res PV)
 |[a0]=>rY (gY (startR [a0] 0))
 |_=>none
def lr:Sn:=
 (dB (bU tZ (aJ (mV 0) (aJ (bU gZ (aJ (mV 1) bA)) bA))))
def lu:List PV->Option (Res PV)
 |[a0,a1]=>fin (lr (startR [a0,a1] 0))
 |_=>none
def lw:Sn:=
 (dB (tO (bU iC (aJ (mV 0) bA)) (m2 Jt (mV 0) (mC (.int 0)))))
def jf:List PV->Option (Res PV)
 |[a0]=>fin (lw (startR [a0] 0))
 |_=>none
def Dm:Sn:=
 (dB (mC (.bl false)))
def Dn:Sn:=
 (dB (mC (.bl false)))
def vh:Sn:=
 (dB (bU qI (aJ (mV 0) (aJ (m2 aZ (mV 1) (mC (.int 2))) bA))))
def vm:Sn:=
 (dB (tO (m2 gD (m2 aZ (mV 1) (mC (.int 0))) (mC (.str "print"))) (bU jf (aJ (m2 aZ (mV 1) (mC (.int 2))) bA))))
def pQ:Sn:=
 (bD (eY (m1 cZ (m2 gD (m2 aZ (mV 1) (mC (.int 0))) (mC (.str "cut"))))
    vh
    dR)
   vm)
def pR:Sn:=
 (bD (eY (mOr (wJ (m1 cZ (m2 wU (m2 aZ (mV 1) (mC (.int 0))) (mC (.ty "str"))))) (wJ (m1 cZ (bU jf (aJ (m2 aZ (mV 1) (mC (.int 1))) bA)))))
    Dn
    dR)
   pQ)
def mR:Sn:=
 (bD (eY (mOr (wJ (m1 cZ (m2 wU (mVL 1) (mC (.ty "tuple"))))) (m1 cZ (m2 uK (m1 gj (mVL 1)) (mC (.int 3)))))
    Dm
    dR)
   pR)
def qJ:List PV->Option (Res PV)
 |[a0,a1]=>fin (mR (startR [a0,a1] 0))
 |_=>none
def xG:Sn:=
 (dB (mC (.bl false)))
def pU:Sn:=
 (dB (Oi (m2 gD (m1 gj (mVL 0)) (mC (.int 0))) (m2 Oq (mV 1) (m2 aZ (m2 aZ (mV 0) (m1 CJ (mC (.int 1)))) (mC (.int 0))))))
def jK:Sn:=
 (bD (eY (zL (m1 cZ (m2 wN (mVL 2) (mC .non))) (m1 cZ (m2 Jt (mV 1) (mV 2))))
    xG
    dR)
   pU)
def jL:List PV->Option (Res PV)
 |[a0,a1,a2]=>fin (jK (startR [a0,a1,a2] 0))
 |_=>none
def t6:Sn:=
 zU
def lz:Sn:=
 (xj 3 (m2 wM (mV 7) (m1 LQ (bU lu (aJ (mV 0) (aJ (m2 aZ (mV 6) (mC (.int 2))) bA))))) (m2 aZ (mV 6) (mC (.int 1))))
def lA:Sn:=
 (pF 4 (lV (aJ (m2 aZ (mV 6) (mC (.int 2))) (aJ (mV 7) bA))))
def t7:Sn:=
 zU
def lB:Sn:=
 (eY (m1 cZ (zM jL (aJ (mVL 4) (aJ (m2 aZ (mV 6) (mC (.int 2))) (aJ (mVL 2) bA)))))
      lA
      t7)
def lC:Sn:=
 (bD (cI (su (iK 3) (m2 aZ (mV 6) (mC (.int 1))) (bU tY (aJ (mV 0) bA))) (gN 7))
    (eY (m1 cZ (m2 gD (m2 aZ (mV 6) (mC (.int 0))) (mC (.str "cut"))))
     lz
     lB))
def g8:Sn:=
 (bD (eY (wJ (m1 cZ (bU qJ (aJ (mV 0) (aJ (mV 6) bA)))))
     t6
     dR)
    lC)
def lD:Sn:=
 (jq 4)
def gw:Sn:=
 (bD (jW 3 CT)
   (bD (jW 4 (pD bA))
   (bD (jc (m1 pI (aJ (mV 1) bA)) (gT 2 (gsCons (gN 5) (gsCons (gN 6) gsNil)))
    g8)
   lD)))
def gA:List PV->Option (Res PV)
 |[a0,a1,a2]=>rY (gw (startR [a0,a1,a2] 5))
 |_=>none
def Do:Sn:=
 (dB (m2 aZ (mV 0) (mC (.int 2))))
def Dq:Sn:=
 (dB (mV 3))
def Dr:Sn:=
 (eY (m1 cZ (m2 gD (mVL 2) (mVL 1)))
     Dq
     dR)
def Ds:Sn:=
 (dB (mV 1))
def Dt:Sn:=
 (bD (jc (m1 mD (m2 aZ (mV 0) (mC (.int 2)))) (gT 2 (gsCons (gN 2) (gsCons (gN 3) gsNil)))
    Dr)
   Ds)
def Af:Sn:=
 (bD (eY (m1 cZ (m2 gD (m2 aZ (mV 0) (mC (.int 0))) (mC (.str "cover"))))
    Do
    dR)
   Dt)
def Ag:List PV->Option (Res PV)
 |[a0,a1]=>fin (Af (startR [a0,a1] 2))
 |_=>none
def qZ:Sn:=
 (cI (bU Ag (aJ (m2 aZ (m2 aZ (mV 0) (mC (.int 1))) (mV 3)) (aJ (mV 2) bA))) (gN 2))
def q9:Sn:=
 (dB (mV 2))
def lE:Sn:=
 (bD (cI (m2 aZ (mV 0) (mC (.int 0))) (gN 2))
   (bD (jc (m1 mD (mV 1)) (gN 3)
    qZ)
   q9))
def lF:List PV->Option (Res PV)
 |[a0,a1]=>fin (lE (startR [a0,a1] 2))
 |_=>none
def nO:Sn:=
 (dB (m1 yU (pK (gG (m1 pI (aJ (mV 1) bA)) [none,none,some 0,some 2] (gT 2 (gsCons (gN 0) (gsCons (gN 1) gsNil))) (m1 cZ (bU nH (aJ (mV 2) (aJ (mV 1) (aJ (mV 3) bA))))) (mV 0)))))
def nP:List PV->Option (Res PV)
 |[a0,a1,a2]=>fin (nO (startR [a0,a1,a2] 0))
 |_=>none
def iM:Sn:=
 (wL (gG (m1 eO (aJ (m2 aZ (mV 1) (mC (.int 0))) bA)) [none,some 0,some 1,some 2,some 3] (gN 0) mG (bU lF (aJ (mV 1) (aJ (bU nP (aJ (mV 2) (aJ (mV 3) (aJ (lV (aJ (mV 0) (aJ (mV 4) bA))) bA)))) bA)))))
def iQ:List PV->Option (Res PV)
 |[a0,a1,a2,a3]=>rY (iM (startR [a0,a1,a2,a3] 0))
 |_=>none
def qK:Sn:=
 (HD (gG (m1 eO (aJ (m2 aZ (mV 1) (mC (.int 1))) bA)) [none,some 0,some 1,some 2] (gN 0) mG (yX (bU iQ (aJ (mV 1) (aJ (mV 2) (aJ (mV 3) (aJ (mV 0) bA))))))))
def qL:List PV->Option (Res PV)
 |[a0,a1,a2]=>Df (qK (startR [a0,a1,a2] 0))
 |_=>none
def fQ:Sn:=
 (bD (cI (m1 (qz (.dk [])) (iB 1)) (gN 2))
   (wL (gG (m1 eO (aJ (mV 0) bA)) [none,some 2] (gN 0) mG (su (iK 1) (mV 0) (mC (.int 0))))))
def fU:List PV->Option (Res PV)
 |[a0,a1]=>rY (fQ (startR [a0,a1] 1))
 |_=>none
def mU:Sn:=
 (dB (lV (aJ (mV 4) (aJ (mV 2) (aJ (mV 5) (aJ (m2 aZ (m2 aZ (mV 1) (mV 2)) (mV 4)) bA))))))
def mW:Sn:=
 (eY (m1 cZ (m2 uK (mVL 5) (m2 aZ (m2 aZ (mV 1) (mV 2)) (mV 4))))
      mU
      dR)
def mX:Sn:=
 (jc (m1 pI (aJ (mV 3) bA)) (gT 2 (gsCons (gN 4) (gsCons (gN 5) gsNil)))
     mW)
def mY:Sn:=
 (dB (mC .non))
def ie:Sn:=
 (bD (jc (m1 pI (aJ (mV 0) bA)) (gT 2 (gsCons (gN 2) (gsCons (gN 3) gsNil)))
    mX)
   mY)
def ig:List PV->Option (Res PV)
 |[a0,a1]=>fin (ie (startR [a0,a1] 4))
 |_=>none
def lG:Sn:=
 (bD (cI (bU qG (aJ (mV 1) bA)) (gN 3))
   (bD (cI (m1 gj (m2 aZ (mV 0) (mC (.int 1)))) (gN 4))
   (bD (cI (bU gA (aJ (mV 3) (aJ (mV 2) (aJ (mV 4) bA)))) (gN 5))
   (dB (bU ig (aJ (bU qL (aJ (mV 0) (aJ (mV 3) (aJ (bU fU (aJ (mV 4) (aJ (mV 5) bA))) bA)))) (aJ (mV 1) bA)))))))
def lH:List PV->Option (Res PV)
 |[a0,a1,a2]=>fin (lG (startR [a0,a1,a2] 3))
 |_=>none
def mZ:Sn:=
 (dB (m2 aZ (mV 0) (mV 1)))
def m5:Sn:=
 (dB (mC (.int 0)))
def j5:Sn:=
 (bD (eY (m1 cZ (m2 zP (mV 1) (m1 gj (mVL 0))))
    mZ
    dR)
   m5)
def bQ:List PV->Option (Res PV)
 |[a0,a1]=>fin (j5 (startR [a0,a1] 0))
 |_=>none
def oF:Sn:=
 (dB (mV 0))
def oG:Sn:=
 (cI (m2 z6 (mV 0) (m2 tQ (mC (.int 10)) (mC (.int 64)))) (gN 0))
def oH:Sn:=
 (dB (m2 b7 (m2 tQ (mC (.int 10)) (mC (.int 20))) (mV 0)))
def oJ:Sn:=
 (bD (jc (m1 eO (aJ (m2 gh (mC (.int 4)) (mV 1)) bA)) (gN 2)
    oG)
   oH)
def iR:Sn:=
 (bD (eY (m1 cZ (m2 zP (mV 0) (m2 tQ (mC (.int 10)) (mC (.int 20)))))
    oF
    dR)
   oJ)
def cW:List PV->Option (Res PV)
 |[a0,a1]=>fin (iR (startR [a0,a1] 1))
 |_=>none
def oK:Sn:=
 (bD (pF 2 (m2 cz (mV 3) (mC (.int 33554432))))
     (cI (m2 vd (mV 3) (mC (.int 33554432))) (gN 3)))
def oM:Sn:=
 (jq 2)
def oN:Sn:=
 (bD (cI (m2 qW (mV 0) (m2 tQ (mC (.int 10)) (mC (.int 20)))) (gN 3))
    (bD (jc (m1 eO (aJ (mV 1) bA)) (gN 4)
     oK)
    oM))
def oO:Sn:=
 (bD (cI (m2 b7 (m2 b7 (m2 b7 (m2 gh (mV 3) (mV 3)) (m2 gh (mC (.int 48271)) (mV 3))) (m2 gh (mC (.int 7)) (mV 4))) (mC (.int 1))) (gN 3))
    (bD (cI (m2 cz (mV 3) (mC (.int 2147483647))) (gN 3))
    (pF 2 (m2 vd (mV 3) (mC (.int 64))))))
def oR:Sn:=
 (jq 2)
def oU:Sn:=
 (bD (cI (m2 b7 (m2 cz (mV 0) (mC (.int 2147483647))) (mC (.int 48271))) (gN 3))
   (bD (jc (m1 eO (aJ (mV 1) bA)) (gN 4)
    oO)
   oR))
def lY:Sn:=
 (bD (jW 2 (pD bA))
   (bD (eY (m1 cZ (m2 Jt (mV 0) (m2 tQ (mC (.int 10)) (mC (.int 20)))))
    oN
    dR)
   oU))
def bR:List PV->Option (Res PV)
 |[a0,a1]=>rY (lY (startR [a0,a1] 3))
 |_=>none
def pW:Sn:=
 (pF 6 (m2 b7 (m2 b7 (Jy (mV 4) mPn (m1 asInt (mV 5))) (mV 9)) (Jy (mV 4) (m1 asInt (mV 5)) mPn)))
def pX:Sn:=
 (pF 6 (m2 b7 (mV 9) (Jy (mV 4) mPn (m1 asInt (m2 cz (mV 7) (m2 b7 (m1 gj (mVL 4)) (mC (.int 1))))))))
def pY:Sn:=
 (pF 6 (m2 b7 (m2 aZ (mV 2) (mV 8)) (mV 4)))
def pZ:Sn:=
 (eY (m1 cZ (m2 gD (m2 cz (m2 aZ (mV 3) (mC (.int 10))) (mC (.int 3))) (mC (.int 1))))
      pX
      pY)
def p6:Sn:=
 (bD (cI (m2 cz (m2 b7 (m2 aZ (mV 3) (mC (.int 8))) (m2 gh (m2 b7 (mC (.int 1)) (m2 cz (m2 aZ (mV 3) (mC (.int 9))) (mC (.int 22)))) (mV 7))) (mC (.int 23))) (gN 8))
    (bD (cI (m2 b7 (m2 aZ (mV 2) (m2 cz (m2 gh (mV 8) (mC (.int 5))) (mC (.int 26)))) (m2 aZ (mV 2) (mV 8))) (gN 9))
    (eY (m1 cZ (m2 gD (m2 cz (m2 aZ (mV 3) (mC (.int 10))) (mC (.int 3))) (mC (.int 0))))
     pW
     pZ)))
def p7:Sn:=
 (jq 6)
def nQ:Sn:=
 (bD (cI (mC (.str "abcdefghijklmnopqrstuvwxyz")) (gN 2))
   (bD (cI (bU bR (aJ (mV 0) (aJ (mC (.int 12)) bA))) (gN 3))
   (bD (cI (Hu (mC (.str "")) (pK (gG (m1 mD (Jx (iB 3) mPn (m1 asInt (m2 cz (m2 aZ (mV 3) (mC (.int 6))) (mC (.int 7)))))) [none,some 2] (gN 0) mG (m2 aZ (mV 1) (m2 cz (mV 0) (mC (.int 26))))))) (gN 4))
   (bD (cI (m2 cz (m2 aZ (mV 3) (mC (.int 7))) (m2 b7 (m1 gj (mVL 4)) (mC (.int 1)))) (gN 5))
   (bD (jW 6 (pD bA))
   (bD (jc (m1 eO (aJ (mV 1) bA)) (gN 7)
    p6)
   p7))))))
def dF:List PV->Option (Res PV)
 |[a0,a1]=>rY (nQ (startR [a0,a1] 8))
 |_=>none
def rA:Sn:=
 (pF 0 (lV (aJ (mV 3) (aJ (m2 aZ (mV 1) (m2 cz (m2 aZ (mV 2) (mC (.int 2))) (m1 gj (mVL 1)))) bA))))
def p8:Sn:=
 (bD (cI (m2 aZ (mV 1) (m2 cz (m2 aZ (mV 2) (mC (.int 1))) (m1 gj (mVL 1)))) (gN 3))
   (eY (zL (m1 cZ (m2 zP (m1 gj (mVL 0)) (mC (.int 8)))) (m1 cZ (m2 nC (mVL 3) (gG (iB 0) [none] (gN 0) mG (m2 aZ (mV 0) (mC (.int 0)))))))
    rA
    dR))
def jg:List PV->Option (Res PV)
 |[a0,a1,a2]=>CN 0 (p8 (jJ 0 [a0,a1,a2] 1))
 |_=>none
def t8:Sn:=
 (dB (lV (aJ (mC (.str "cover")) (aJ (mV 0) (aJ (m2 aZ (mV 2) (m2 cz (m2 aZ (mV 6) (mC (.int 1))) (m1 gj (mVL 2)))) bA)))))
def nR:Sn:=
 (mIO 3 jg (wZ 3 (aJ (mV 2) (aJ (mV 6) bA))))
def uc:Sn:=
 (bD (cI (bU bR (aJ (m2 b7 (mV 5) (m2 gh (mC (.int 31)) (mV 4))) (aJ (mC (.int 4)) bA))) (gN 6))
    (bD (eY (zL (m1 cZ (m2 gD (mVL 4) (mC (.int 0)))) (m1 cZ (m2 gD (m2 cz (m2 aZ (mV 6) (mC (.int 0))) (mC (.int 3))) (mC (.int 0)))))
     t8
     dR)
    nR))
def nT:Sn:=
 (dB (lV (aJ (mC (.str "glaze")) (aJ (mV 0) (aJ (m1 yU (iB 3)) bA)))))
def sO:Sn:=
 (bD (jW 3 (pD bA))
   (bD (jc (m1 pI (aJ (mV 1) bA)) (gT 2 (gsCons (gN 4) (gsCons (gN 5) gsNil)))
    uc)
   nT))
def j6:List PV->Option (Res PV)
 |[a0,a1,a2]=>fin (sO (startR [a0,a1,a2] 4))
 |_=>none
def qb:Sn:=
 (cI (pD (aJ (m2 b7 (m2 aZ (mV 1) (mC (.int 4))) (mV 6)) bA)) (gN 8))
def j7:Sn:=
 (pF 5 (bU j6 (aJ (mV 7) (aJ (mV 8) (aJ (mV 4) bA)))))
def qd:Sn:=
 (bD (cI (m2 aZ (mV 2) (m2 cz (m2 b7 (m2 aZ (mV 1) (mC (.int 2))) (m2 gh (m2 b7 (mC (.int 1)) (m2 cz (m2 aZ (mV 1) (mC (.int 3))) (mC (.int 22)))) (mV 6))) (mC (.int 23)))) (gN 7))
    (bD (cI (OJ (iB 0) (m1 asInt (m2 b7 (mC (.int 2)) (mV 6))) (m1 asInt (mC (.int 63))) (m1 asInt (mV 3))) (gN 8))
    (bD (eY (m1 cZ (m2 gD (mVL 8) (pD bA)))
     qb
     dR)
    j7)))
def j8:Sn:=
 (RX 5 (dB (lV (aJ (m2 aZ (mV 4) (m2 cz (m2 aZ (mV 1) (mC (.int 5))) (m1 gj (mVL 4)))) (aJ (mV 5) bA)))))
def nU:Sn:=
 (bD (cI (bU bR (aJ (bU bQ (aJ (mV 0) (aJ (mC (.int 0)) bA))) (aJ (mC (.int 6)) bA))) (gN 1))
   (bD (cI (bU dF (aJ (bU bQ (aJ (mV 0) (aJ (mC (.int 1)) bA))) (aJ (mC (.int 23)) bA))) (gN 2))
   (bD (cI (m2 b7 (mC (.int 1)) (m2 cz (m2 aZ (mV 1) (mC (.int 0))) (mC (.int 8)))) (gN 3))
   (bD (cI (Jx (iB 2) mPn (m1 asInt (m2 yP (pK (pD (aJ (m2 b7 (mC (.int 1)) (m2 cz (m2 aZ (mV 1) (mC (.int 1))) (mC (.int 10)))) (aJ (mC (.int 10)) bA)))) (m2 cz (m2 vd (m2 aZ (mV 1) (mC (.int 1))) (mC (.int 10))) (mC (.int 2)))))) (gN 4))
   (bD (jW 5 (pD bA))
   (bD (jc (m1 eO (aJ (mV 3) bA)) (gN 6)
    qd)
   j8))))))
def ik:List PV->Option (Res PV)
 |[a0]=>fin (nU (startR [a0] 8))
 |_=>none
def lJ:Sn:=
 (bD (cI (bU bR (aJ (m2 b7 (bU cW (aJ (mV 0) (aJ (mC (.int 1)) bA))) (mC (.int 5))) (aJ (mC (.int 4)) bA))) (gN 1))
   (dB (m1 yU (pK (gG (m1 eO (aJ (mC (.int 2)) bA)) [none,some 1] (gN 0) mG (m2 yP (pK (pD (aJ (mC (.int 1)) (aJ (mC (.int 24)) (aJ (m2 b7 (mC (.int 1)) (m2 cz (m2 aZ (mV 1) (mV 0)) (mC (.int 24)))) (aJ (m2 b7 (mC (.int 1)) (m2 cz (m2 aZ (mV 1) (mV 0)) (mC (.int 6)))) bA)))))) (m2 cz (m2 vd (m2 aZ (mV 1) (m2 b7 (mC (.int 2)) (mV 0))) (mC (.int 24))) (mC (.int 4)))))))))
def jh:List PV->Option (Res PV)
 |[a0]=>fin (lJ (startR [a0] 1))
 |_=>none
def iT:Sn:=
 (bD (cI (m2 cz (m2 aZ (mV 1) (mC (.int 1))) (mC (.int 2))) (gN 2))
   (bD (cI (m2 cz (m2 aZ (mV 1) (mC (.int 2))) (m2 aZ (mV 0) (m2 qW (mC (.int 1)) (mV 2)))) (gN 3))
   (bD (cI (m2 cz (m2 aZ (mV 1) (mC (.int 3))) (m2 aZ (mV 0) (mV 2))) (gN 4))
   (bD (cI (m2 b7 (mV 4) (m2 cz (m2 aZ (mV 1) (mC (.int 4))) (m2 qW (m2 aZ (mV 0) (mV 2)) (mV 4)))) (gN 5))
   (dB (lV (aJ (m2 yP (pK (pD (aJ (mC (.str "row")) (aJ (mC (.str "column")) bA)))) (mV 2)) (aJ (mV 3) (aJ (mV 4) (aJ (mV 5) bA))))))))))
def gk:List PV->Option (Res PV)
 |[a0,a1]=>fin (iT (startR [a0,a1] 4))
 |_=>none
def rB:Sn:=
 (bD (cI (m2 b7 (mV 4) (m2 gh (m2 cz (m2 aZ (mV 7) (mC (.int 7))) (mC (.int 2))) (m2 cz (m2 vd (m2 aZ (mV 7) (mC (.int 7))) (mC (.int 2))) (m2 qW (mV 2) (mV 4))))) (gN 4))
     (bD (pF 3 (lV (aJ (mC (.str "print")) (aJ (mV 8) (aJ (mV 4) bA)))))
     (cI (m2 b7 (mV 4) (mC (.int 1))) (gN 4))))
def lZ:Sn:=
 (pF 3 (lV (aJ (mC (.str "cut")) (aJ (mV 8) (aJ (bU gk (aJ (mV 1) (aJ (mV 7) bA))) bA)))))
def rC:Sn:=
 (bD (cI (bU bR (aJ (m2 b7 (m2 b7 (bU cW (aJ (mV 6) (aJ (mC (.int 1)) bA))) (mC (.int 977))) (m2 gh (mC (.int 31)) (mV 5))) (aJ (mC (.int 8)) bA))) (gN 7))
    (bD (cI (m2 yP (pK (pD (aJ (mC (.int 0)) (aJ (mC (.int 1)) (aJ (mC (.int 2)) (aJ (m2 cz (m2 aZ (mV 7) (mC (.int 5))) (m2 tQ (mC (.int 10)) (mC (.int 18)))) bA)))))) (m2 cz (m2 aZ (mV 7) (mC (.int 6))) (mC (.int 4)))) (gN 8))
    (eY (zL (m1 cZ (m2 gD (m2 cz (m2 aZ (mV 7) (mC (.int 0))) (mC (.int 4))) (mC (.int 0)))) (m1 cZ (m2 zP (mV 4) (mV 2))))
     rB
     lZ)))
def rD:Sn:=
 (jq 3)
def lK:Sn:=
 (bD (jW 3 (pD bA))
   (bD (cI (mC (.int 0)) (gN 4))
   (bD (jc (m1 pI (aJ (Jx (iB 0) (m1 asInt (mC (.int 3))) (m1 asInt (mC (.int 63)))) bA)) (gT 2 (gsCons (gN 5) (gsCons (gN 6) gsNil)))
    rC)
   rD)))
def jj:List PV->Option (Res PV)
 |[a0,a1,a2]=>rY (lK (startR [a0,a1,a2] 6))
 |_=>none
def rE:Sn:=
 (cI (m2 b7 (mV 6) (m2 vf (mC (.int 1)) (m2 b7 (m2 gh (mV 3) (m2 aZ (mV 0) (mC (.int 0)))) (mV 7)))) (gN 6))
def rF:Sn:=
 (cI (m2 b7 (mV 6) (m2 vf (mC (.int 1)) (m2 b7 (m2 gh (mV 7) (m2 aZ (mV 0) (mC (.int 0)))) (mV 3)))) (gN 6))
def rG:Sn:=
 (eY (m1 cZ (m2 gD (mVL 2) (mC (.str "row"))))
     rE
     rF)
def rH:Sn:=
 (dB (mV 6))
def lL:Sn:=
 (bD (cI (mV 1) (gT 4 (gsCons (gN 2) (gsCons (gN 3) (gsCons (gN 4) (gsCons (gN 5) gsNil))))))
   (bD (cI (mC (.int 0)) (gN 6))
   (bD (jc (m1 wR (aJ (mV 4) (aJ (m2 b7 (mV 5) (mC (.int 1))) bA))) (gN 7)
    rG)
   rH)))
def lM:List PV->Option (Res PV)
 |[a0,a1]=>fin (lL (startR [a0,a1] 6))
 |_=>none
def oV:Sn:=
 (xj 2 (m2 qW (mV 7) (m2 wM (mV 7) (bU lM (aJ (mV 0) (aJ (mV 6) bA))))) (mV 5))
def oW:Sn:=
 (xj 3 (mV 7) (mV 6))
def jw:Sn:=
 (bD (cI (su (iK 2) (mV 5) (m2 qW (m2 vf (mC (.int 1)) (m2 gh (m2 aZ (mV 0) (mC (.int 0))) (m2 aZ (mV 0) (mC (.int 1))))) (mC (.int 1)))) (gN 7))
    (eY (m1 cZ (m2 gD (mVL 4) (mC (.str "cut"))))
     oV
     oW))
def oX:Sn:=
 (jq 3)
def iU:Sn:=
 (bD (jW 2 CT)
   (bD (jW 3 CT)
   (bD (jc (m1 mD (mV 1)) (gT 3 (gsCons (gN 4) (gsCons (gN 5) (gsCons (gN 6) gsNil))))
    jw)
   oX)))
def iV:List PV->Option (Res PV)
 |[a0,a1]=>rY (iU (startR [a0,a1] 6))
 |_=>none
def oY:Sn:=
 (cI (m2 aZ (mV 4) (mC (.int 2))) (gN 2))
def oZ:Sn:=
 (cI (su (zW (m1 (zZ (.dk [])) (m2 aZ (mV 4) (mC (.int 2))))) (mV 2) (mV 2)) (gN 2))
def o7:Sn:=
 (bD (cI (m2 aZ (m2 aZ (mV 0) (mC (.int 1))) (mV 3)) (gN 4))
    (eY (m1 cZ (m2 gD (m2 aZ (mV 4) (mC (.int 0))) (mC (.str "cover"))))
     oY
     oZ))
def o8:Sn:=
 (dB (mV 2))
def iW:Sn:=
 (bD (cI (m2 aZ (mV 0) (mC (.int 0))) (gN 2))
   (bD (jc (m1 mD (mV 1)) (gN 3)
    o7)
   o8))
def iY:List PV->Option (Res PV)
 |[a0,a1]=>fin (iW (startR [a0,a1] 3))
 |_=>none
def m6:Sn:=
 (xj 3 (bU iY (aJ (mV 0) (aJ (mV 9) bA))) (mV 9))
def iG:Sn:=
 (pF 6 (m2 sr (iK 3) (mV 9)))
def iH:Sn:=
 (bD (cI (m2 b7 (m2 gh (mV 5) (m2 aZ (mV 1) (mC (.int 0)))) (mV 7)) (gN 8))
     (bD (cI (m1 yU (pK (uR 2 (gG (m1 z8 (mV 2)) [none,some 8,some 2] (gN 0) (m1 cZ (m2 gD (m2 wM (m2 Cu (m2 sr (iK 2) (mV 0)) (mV 1)) (mC (.int 1))) (mC (.int 1)))) (mV 0))))) (gN 9))
     (bD (eY (m1 cZ (m2 pL (mV 9) (iK 3)))
      m6
      dR)
     iG)))
def m7:Sn:=
 (RX 6 (pF 4 (mV 6)))
def m9:Sn:=
 (bD (jW 6 (pD bA))
    (bD (jc (m1 eO (aJ (m2 aZ (mV 1) (mC (.int 0))) bA)) (gN 7)
     iH)
    m7))
def ni:Sn:=
 (jq 4)
def ir:Sn:=
 (bD (jW 3 LC)
   (bD (jW 4 (pD bA))
   (bD (jc (m1 eO (aJ (m2 aZ (mV 1) (mC (.int 1))) bA)) (gN 5)
    m9)
   ni)))
def iu:List PV->Option (Res PV)
 |[a0,a1,a2]=>rY (ir (startR [a0,a1,a2] 7))
 |_=>none
def rJ:Sn:=
 (tW 5 7 (m2 cz (m2 aZ (mV 3) (m2 b7 (mC (.int 2)) (mV 6))) (m2 aZ (mV 2) (mC (.int 1)))) (m2 aZ (mV 4) (m2 cz (m2 aZ (mV 3) (m2 b7 (mC (.int 4)) (mV 6))) (mC (.int 12)))) (m2 cz (m2 aZ (mV 3) (m2 b7 (mC (.int 3)) (mV 6))) (m2 aZ (mV 2) (mC (.int 0)))))
def rK:Sn:=
 (jc (m1 eO (aJ (m2 b7 (mC (.int 1)) (m2 cz (m2 aZ (mV 3) (mC (.int 1))) (mC (.int 3)))) bA)) (gN 6)
     rJ)
def rM:Sn:=
 (Di 5 (m2 aZ (mV 4) (m2 cz (m2 aZ (mV 3) (mC (.int 5))) (mC (.int 12)))) (m1 CJ (mC (.int 1))) (m1 CJ (mC (.int 1))))
def rN:Sn:=
 (Di 5 (m2 aZ (mV 4) (m2 cz (m2 b7 (mV 8) (mV 9)) (mC (.int 12)))) (mV 8) (mV 9))
def rO:Sn:=
 (eY (m1 cZ (m2 gD (m2 cz (m2 b7 (m2 b7 (m2 aZ (mV 3) (mC (.int 6))) (m2 gh (mV 8) (m2 aZ (mV 3) (mC (.int 7))))) (m2 gh (mV 9) (m2 aZ (mV 3) (mC (.int 8))))) (mC (.int 5))) (mC (.int 0))))
       rN
       dR)
def rP:Sn:=
 (jc (m1 eO (aJ (m2 aZ (mV 2) (mC (.int 0))) bA)) (gN 9)
      rO)
def rQ:Sn:=
 (jc (m1 eO (aJ (m2 aZ (mV 2) (mC (.int 1))) bA)) (gN 8)
     rP)
def mj:Sn:=
 (uP 5)
def mq:Sn:=
 (bD (eY (m1 cZ (m2 gD (m2 cz (m2 aZ (mV 3) (mC (.int 0))) (mC (.int 4))) (mC (.int 3))))
    rQ
    dR)
   mj)
def j9:Sn:=
 (bD (eY (m1 cZ (m2 gD (m2 cz (m2 aZ (mV 3) (mC (.int 0))) (mC (.int 4))) (mC (.int 2))))
    rM
    dR)
   mq)
def lN:Sn:=
 (bD (cI (bU bR (aJ (m2 b7 (bU cW (aJ (bU bQ (aJ (mV 0) (aJ (mC (.int 2)) bA))) (aJ (mC (.int 1)) bA))) (mC (.int 3))) (aJ (mC (.int 9)) bA))) (gN 3))
   (bD (cI (bU dF (aJ (bU bQ (aJ (mV 0) (aJ (mC (.int 1)) bA))) (aJ (mC (.int 12)) bA))) (gN 4))
   (bD (HB 5 (gG (m1 mD (mV 1)) [none] (gN 0) mG (yX (m1 pJ (iB 0)))))
   (bD (eY (m1 cZ (m2 gD (m2 cz (m2 aZ (mV 3) (mC (.int 0))) (mC (.int 4))) (mC (.int 1))))
    rK
    dR)
   j9))))
def jk:List PV->Option (Res PV)
 |[a0,a1,a2]=>Df (lN (startR [a0,a1,a2] 7))
 |_=>none
def ud:Sn:=
 (dB (lV (aJ (mV 3) (aJ (mV 2) (aJ (m2 aZ (m2 aZ (mV 0) (mV 2)) (mV 3)) (aJ (m2 aZ (m2 aZ (mV 1) (mV 2)) (mV 3)) bA))))))
def ue:Sn:=
 (eY (m1 cZ (m2 uK (m2 aZ (m2 aZ (mV 0) (mV 2)) (mV 3)) (m2 aZ (m2 aZ (mV 1) (mV 2)) (mV 3))))
      ud
      dR)
def uf:Sn:=
 (jc (m1 eO (aJ (m1 gj (m2 aZ (mV 1) (mV 2))) bA)) (gN 3)
     ue)
def ug:Sn:=
 (dB (mC .non))
def nW:Sn:=
 (bD (jc (m1 eO (aJ (m1 gj (mVL 1)) bA)) (gN 2)
    uf)
   ug)
def nY:List PV->Option (Res PV)
 |[a0,a1]=>fin (nW (startR [a0,a1] 2))
 |_=>none
def Py:Sn:=
 (dB (mC (.bl false)))
def Pz:Sn:=
 (dB (mC (.bl false)))
def PB:Sn:=
 (dB (mC (.bl false)))
def Ah:Sn:=
 (eY (zL (m1 cZ (m2 wN (mVL 7) (mC .non))) (mOr (wJ (m1 cZ (m2 wU (mVL 9) (mC (.ty "tuple"))))) (m1 cZ (m2 uK (mVL 9) (mVL 7)))))
     PB
     dR)
def Ia:Sn:=
 (bD (eY (zL (m1 cZ (m2 Le (mVL 7) (mC .non))) (m1 cZ (m2 wN (mVL 9) (mC .non))))
     Pz
     dR)
    Ah)
def Ib:Sn:=
 (bD (cI (bU lH (aJ (m2 aZ (mV 6) (mC (.int 0))) (aJ (m2 aZ (mV 6) (mC (.int 1))) (aJ (m2 aZ (mV 6) (mC (.int 2))) bA)))) (gN 9))
    (bD (eY (m1 cZ (m2 uK (mVL 6) (lV (aJ (mV 1) (aJ (mV 5) (aJ (mV 3) bA))))))
     Py
     dR)
    Ia))
def Ie:Sn:=
 (dB (mC (.bl true)))
def Ig:Sn:=
 (bD (cI (bU ik (aJ (mV 0) bA)) (gN 1))
   (bD (cI (bU jh (aJ (bU bQ (aJ (mV 0) (aJ (mC (.int 0)) bA))) bA)) (gN 2))
   (bD (cI (bU jj (aJ (mV 0) (aJ (mV 2) (aJ (m1 gj (m2 aZ (mV 1) (mC (.int 1)))) bA)))) (gN 3))
   (bD (cI (bU iu (aJ (mV 1) (aJ (mV 2) (aJ (bU iV (aJ (mV 2) (aJ (mV 3) bA))) bA)))) (gN 4))
   (bD (cI (bU jk (aJ (mV 0) (aJ (mV 4) (aJ (mV 2) bA)))) (gN 5))
   (bD (cI (lV (aJ (lV (aJ (m2 aZ (mV 1) (mC (.int 0))) (aJ (m1 pJ (pK (m2 aZ (mV 1) (mC (.int 1))))) bA))) (aJ (gG (m1 mD (mV 5)) [none] (gN 0) mG (m1 pJ (iB 0))) (aJ (m1 pJ (iB 3)) bA)))) (gN 6))
   (bD (cI (bU nY (aJ (mV 4) (aJ (mV 5) bA))) (gN 7))
   (bD (jc (m1 eO (aJ (mC (.int 2)) bA)) (gN 8)
    Ib)
   Ie))))))))
def za:List PV->Option (Res PV)
 |[a0]=>fin (Ig (startR [a0] 9))
 |_=>none
local macro_rules|`(tactic| walk_at "rd")=>do
 let ids:=("onNx_nx onNx_rt onNx_ro onNx_rd onNx_bk onNx_ct tv_some to_nx to_rt to_ro to_rd to_bk to_ct tv_ite to_ite turn_nx turn_ct turn_bk turn_rt turn_ro turn_rd tv_bnd to_bnd to_seq tv_m2 tv_m1 tv_var tv_lend tv_c tv_view tv_viewN tv_asLst tv_nil tv_cons tv_tup tv_lst tv_call tv_callL tv_mIf tv_mAnd tv_mOr tv_mNot tv_and tv_or tv_chain tv_comp tv_compN tv_compC tv_yes to_next to_ret to_retO holdQ_nx holdQ_rt holdQ_ro tv_holdE tv_dkeys to_setO to_setD to_retD to_retDp tv_deep to_asgN to_asg to_if to_for to_retOw to_app to_frz tv_consO to_io tv_neg tv_newD tv_viewD tv_viewDN tv_dget2 tv_opDGet tv_opDNotIn tv_dictP tv_dictT tv_newT tv_inv tv_divL to_dput dF_int dF_str dF_tup isD_dk isD_dt is_dk_int is_dk_str finIO_nx to_never tv_sub tv_and' tv_or' tv_gt tv_ge tv_div tv_mod tv_pow tv_shl tv_shr tv_add tv_addS tv_addT tv_mul tv_mulS tv_lt tv_ltS tv_le tv_leS tv_eqI tv_eqS tv_neI tv_neS tv_eq tv_ne tv_notin tv_isN tv_notN tv_ixL tv_ixT tv_ixV tv_ixS tv_lenS tv_lenL tv_lenT tv_is tv_asBl tv_not tv_list tv_opTup tv_asSeqL tv_asSeqT tv_asSeqS tv_rng1 tv_rng2 tv_enum tv_pn tv_asInt tv_slL tv_slK tv_slS tv_slT tv_opSlS tv_opSlT tv_join tv_opJoin tv_all startR fin_nx fin_rt finO_ro finT_rd gN gT gsCons gsNil szP cellP List.map_cons List.map_nil List.replicate_succ List.replicate_zero List.cons_append List.nil_append List.append_nil List.getElem?_cons_zero List.getElem?_cons_succ List.set_cons_zero List.set_cons_succ List.length_cons List.length_nil Nat.zero_le true_and and_true Option.some.injEq Sl.sh.injEq Sl.ow.injEq Sl.dp.injEq Res.ok.injEq PV.int.injEq PV.str.injEq PV.bl.injEq PV.lst.injEq PV.tup.injEq exists_eq_left' exists_eq_left exists_eq and_assoc exists_and_left if_true if_false not_true_eq_false not_false_eq_true Bool.false_eq_true Bool.not_true Bool.not_false decide_eq_true_eq Bool.not_eq_true' decide_eq_false_iff_not reduceCtorEq is_non_int is_non_bool is_non_str is_non_list is_non_tuple is_non_dict is_bl_int is_bl_bool is_bl_str is_bl_list is_bl_tuple is_bl_dict is_int_int is_int_bool is_int_str is_int_list is_int_tuple is_int_dict is_str_int is_str_bool is_str_str is_str_list is_str_tuple is_str_dict is_tup_int is_tup_bool is_tup_str is_tup_list is_tup_tuple is_tup_dict is_lst_int is_lst_bool is_lst_str is_lst_list is_lst_tuple is_lst_dict Int.reduceAdd Int.reduceSub Int.reduceMul Int.reduceNeg Int.reduceToNat atI_0 atI_1 atI_2 atI_3 snocI snocS snocC eqF_int eqF_str eqF_bl frR shOnly".splitOn " ").toArray.map λs=>Lean.mkIdent s.toName
 `(tactic| simp(maxSteps:=2000000) only[$[$ids:ident],*])
theorem jQ(c m:Int)(m0:0<=m)(m1:m<=1000):∃ ns:List Int,bR [.int c,.int m]=some (.ok (.lst (ns.map .int)))/\(ns.length:Int)=m/\∀ n∈ns,0<=n/\n<33554432:=by
 have e1:((m.toNat:Nat):Int)=m:=ZaA m0;have b1:∀ n:Nat,n<m.toNat->n<sizeLine:=λn h=>bK (by omega)
 have more:∀ {ns:List Int}{z:Int},(∀ n∈ns,0<=n/\n<33554432)->0<=z->z<33554432->∀ n∈ns++[z],0<=n/\n<33554432:=λ{ns z} hb h1 h2 n hn=>by
  rcases ZaU.mp hn with h|h
  ·exact hb n h
  ·have e:n=z:=by simpa using h
   rw[e];exact⟨h1,h2⟩
 suffices h:∃ p,bR [.int c,.int m]=some (.ok p)/\∃ ns:List Int,p=.lst (ns.map .int)/\(ns.length:Int)=m/\∀ n∈ns,0<=n/\n<33554432 by
  obtain⟨p,e,ns,rfl,h⟩:=h;exact⟨ns,e,h⟩
 refine Ad ?_;unfold lY;walk_at "rd"
 refine⟨by decide,by decide,by decide,jo (λ_=>?_) (λ_=>?_)⟩
 ·unfold oN;walk_at "rd"
  refine⟨by decide,by decide,by decide,by omega,by omega,?_⟩
  refine dh (λi ρ=>∃ (ns:List Int) (n:Int) (v:Option Sl),ρ=[some (.sh (.int c)),some (.sh (.int m)),some (.ow (.lst (ns.map .int))),some (.sh (.int n)),v]/\ns.length=i/\∀ n∈ns,0<=n/\n<33554432) ⟨[],_,none,rfl,rfl,λ_ h=>nomatch h⟩ ?_ ?_
  ·rintro i x ρ hx ⟨ns,n,v,rfl,hl,hb⟩;have hi:i<m.toNat:=by simpa[mF] using bT hx
   unfold oK;walk_at "rd"
   refine⟨by decide,by rw[List.length_map,hl];exact b1 i hi,by decide,by decide,ns++[n%33554432],_,_,rfl,by rw[List.length_append,hl];rfl,more hb (Zal _ (by decide)) (Zaj _ (by decide))⟩
  ·rintro ρ ⟨ns,n,v,rfl,hl,hb⟩;unfold oM;walk_at "rd"
   exact⟨ns,rfl,by rw[hl,b8];exact e1,hb⟩
 ·unfold oU;walk_at "rd"
  refine⟨by decide,by omega,by omega,?_⟩
  refine dh (λi ρ=>∃ (ns:List Int) (n:Int) (v:Option Sl),ρ=[some (.sh (.int c)),some (.sh (.int m)),some (.ow (.lst (ns.map .int))),some (.sh (.int n)),v]/\ns.length=i/\(∀ n∈ns,0<=n/\n<33554432)/\0<=n/\n<4294967296)
   ⟨[],_,none,rfl,rfl,(λ_ h=>nomatch h),by omega,by omega⟩ ?_ ?_
  ·rintro i x ρ hx ⟨ns,n,v,rfl,hl,hb,n0,n1⟩;have hi:i<m.toNat:=by simpa[mF] using bT hx
   have ex:x=.int (0+(i:Int)):=by
    unfold mF at hx;rw[Zac,ZaJ hi] at hx;exact(Zaa hx).symm
   subst ex;unfold oO;walk_at "rd"
   refine⟨.inl ⟨by omega,by omega⟩,.inl ⟨by decide,by decide⟩,.inl ⟨by decide,by decide⟩,by decide,by decide,by decide,by rw[List.length_map,hl];exact b1 i hi,?_⟩
   generalize hz:(n*n+48271*n+7*(0+(i:Int))+1)%2147483647=z
   have z0:0<=z:=by rw[<-hz];exact Zal _ (by decide)
   have z1:z<2147483647:=by rw[<-hz];exact Zaj _ (by decide)
   exact⟨ns++[z/64],_,_,rfl,by rw[List.length_append,hl];rfl,more hb (by omega) (by omega),by omega,by omega⟩
  ·rintro ρ ⟨ns,n,v,rfl,hl,hb,_⟩;unfold oR;walk_at "rd"
   exact⟨ns,rfl,by rw[hl,b8];exact e1,hb⟩
theorem kh(ns:List Int)(i:Int)(i0:0<=i):∃ n:Int,bQ [.lst (ns.map .int),.int i]=some (.ok (.int n)):=by
 suffices h:∃ p,bQ [.lst (ns.map .int),.int i]=some (.ok p)/\∃ n,p=.int n by
  obtain⟨p,e,n,rfl⟩:=h;exact⟨n,e⟩
 refine pO ?_;unfold j5;walk_at "rd"
 refine jo (λh=>?_) (λh=>?_)
 ·unfold mZ;walk_at "rd"
  exact⟨_,fP i0 (by rw[List.length_map] at h;exact h),_,rfl⟩
 ·unfold m5;walk_at "rd"
  exact⟨_,rfl⟩
structure Sz(w h:Int):Prop where
 w0:1<=w
 w1:w<=24
 h0:1<=h
 h1:h<=24
theorem Sz.mul{w h:Int}(s:Sz w h):1<=w*h/\w*h<=576:=by
 obtain⟨a,b,c,d⟩:=s;have e1:1*1<=w*h:=Int.mul_le_mul a c (by decide) (by lia)
 have e2:w*h<=24*24:=Int.mul_le_mul b d (by lia) (by decide)
 lia
theorem Sz.at{w h c r:Int}(_:Sz w h)(c0:0<=c)(c1:c<w)(r0:0<=r)(r1:r<h):0<=r*w+c/\r*w+c<w*h:=by
 have e1:0<=r*w:=Int.mul_nonneg r0 (by lia)
 have e2:(r+1)*w<=h*w:=Int.mul_le_mul_of_nonneg_right (by lia) (by lia)
 rw[Int.add_mul,Int.one_mul] at e2;rw[Int.mul_comm w h];lia
theorem Sz.nat{w h:Int}(s:Sz w h):w.toNat*h.toNat=(w*h).toNat/\w.toNat*h.toNat<=576:=by
 have hm:=s.mul;obtain⟨a,b,c,d⟩:=s;obtain⟨x,rfl⟩:=ZaX (show 0<=w by omega)
 obtain⟨y,rfl⟩:=ZaX (show 0<=h by omega)
 have e:(x:Int)*(y:Int)=((x*y:Nat):Int):=by simp
 rw[e] at hm ⊢;simp only[Zak];have h2:((x*y:Nat):Int)<=((576:Nat):Int):=hm.2;exact⟨trivial,Int.ofNat_le.mp h2⟩
structure Cell(w h c r:Int):Prop where
 c0:0<=c
 c1:c<w
 r0:0<=r
 r1:r<h
theorem Cell.pl{w h c r:Int}(z:Cell w h c r):(r*w+c).toNat=Mth.pl w.toNat (c,r)/\0<=r*w+c:=by
 obtain⟨c0,c1,r0,r1⟩:=z;obtain⟨a,rfl⟩:=ZaX c0;obtain⟨b,rfl⟩:=ZaX r0;obtain⟨v,rfl⟩:=ZaX (show 0<=w by omega)
 unfold Mth.pl;simp only[Zak];have e:(b:Int)*(v:Int)+(a:Int)=((b*v+a:Nat):Int):=by simp
 rw[e,Zak];exact⟨rfl,Zbe _⟩
theorem JH(a b:Nat):Builtin.bitOr (a:Int) (b:Int)=((a ||| b:Nat):Int):=by
 have n1:∀ x:Nat,¬0<=Builtin.bitNot (x:Int):=λx=>by unfold Builtin.bitNot;omega
 unfold Builtin.bitOr;rw[bitAnd_nn (n1 a) (n1 b),bitNot_bitNot,bitNot_bitNot,bitNot_bitNot,Zak,Zak]
theorem Ii(n p:Nat):decide (Builtin.bitAnd ((n:Int)/2^p) 1=1)=n.testBit p:=by
 have e:(n:Int)/2^p=((n/2^p:Nat):Int):=by simp
 rw[e,bitAnd_pp (Zbe _) (by decide),Zak,show(1:Int).toNat=1 from rfl,Mth.N7]
 cases n.testBit p<;>rfl
theorem iZ{lo:Int}{n i:Nat}{x:PV}(h:(mF lo n)[i]?=some x):i<n/\x=.int (lo+(i:Int)):=by
 have hi:i<n:=by simpa[mF] using bT h
 unfold mF at h;rw[Zac,ZaJ hi] at h;exact⟨hi,(Zaa h).symm⟩
theorem take_snoc{α:Type}{l:List α}{i:Nat}{x:α}(h:l[i]?=some x):l.take (i+1)=l.take i++[x]:=by
 rw[List.take_succ,h];rfl
theorem Du{w h c r:Int}(sz:Sz w h)(cl:Cell w h c r):iD [.tup [.int w,.int h],.tup [.int c,.int r]]=some (.ok (.int (r*w+c))):=by
 refine dY ?_;unfold sI;walk_at "rd"
 have:=cl.r0;have:=cl.r1;have:=sz.h1;exact .inl ⟨by lia,by lia⟩
theorem Sh{w h c r:Int}(sz:Sz w h)(cl:Cell w h c r)(n:Nat):nH [.tup [.int w,.int h],.int n,.tup [.int c,.int r]]=some (.ok (.bl (n.testBit (Mth.pl w.toNat (c,r))))):=by
 refine dY ?_;unfold sJ;walk_at "rd"
 obtain⟨e1,e2⟩:=cl.pl;rw[Du sz cl];walk_at "rd"
 rw[e1,Ii];exact⟨e2,rfl⟩
theorem JK{w h:Int}(sz:Sz w h)(ps:List (Int×Int))(hc:∀ c∈ps,Cell w h c.1 c.2):tZ [.tup [.int w,.int h],.lst (ps.map cellP)]=some (.ok (.int (Mth.vC w.toNat ps))):=by
 refine dY ?_;unfold xF;walk_at "rd"
 refine dh (λi ρ=>∃ v,ρ=[some (.sh (.tup [.int w,.int h])),some (.sh (.lst (ps.map cellP))),some (.sh (.int (Mth.vC w.toNat (ps.take i)))),v]) ⟨none,rfl⟩ ?_ ?_
 ·rintro i x ρ hx ⟨v,rfl⟩;rw[Zac] at hx;cases hd:ps[i]? with
  |none=>rw[hd] at hx;cases hx
  |some d=>
   rw[hd] at hx;cases hx;have cl:=hc d (ZaI hd);obtain⟨e1,e2⟩:=cl.pl;have hm:=sz.mul;have ha:=sz.at cl.c0 cl.c1 cl.r0 cl.r1;unfold xu;walk_at "rd"
   rw[Du sz cl];walk_at "rd"
   have e3:(1:Int)*2^Mth.pl w.toNat (d.1,d.2)=((2^Mth.pl w.toNat d:Nat):Int):=by simp
   rw[e1,e3,JH,take_snoc hd,Mth.yH];exact⟨by lia,by lia,by decide,_,rfl⟩
 ·rintro ρ ⟨v,rfl⟩;unfold xx;walk_at "rd"
  rw[Zbk (by simp)]
def isL(c:Nat):Bool:=decide (97<=c/\c<=122)
def vo(z:Str):Bool:=decide (1<=z.length/\z.length<=8)&&z.cps.toList.all isL
theorem letters:(Str.ofString "abcdefghijklmnopqrstuvwxyz").cps.toList=List.range' 97 26:=by decide +kernel
theorem Ai{n:Int}(h0:0<=n)(h:n<26):atI (Str.ofString "abcdefghijklmnopqrstuvwxyz").cps.toList n=some (97+n.toNat):=by
 refine Pq h0 ?_;rw[letters,List.getElem?_range' (by omega)]
 simp
theorem PJ:(Str.ofString "abcdefghijklmnopqrstuvwxyz").length=26:=by decide +kernel
theorem Aj{n:Int}(h0:0<=n)(h:n<26):isL (97+n.toNat)=true:=by
 unfold isL;rw[decide_eq_true_eq];omega
theorem Sq(n:Nat)(u:Option Int):Builtin.Str.strSliceIndices none u 1 n=Builtin.Str.strSliceIndices (some 0) u 1 n:=by
 have e:max (0:Int) (min 0 (n:Int))=0:=by omega
 simp[Builtin.Str.strSliceIndices,e]
theorem Ms(n:Nat)(l:Option Int):Builtin.Str.strSliceIndices l none 1 n=Builtin.Str.strSliceIndices l (some (n:Int)) 1 n:=by
 have e:max (0:Int) (min (n:Int) (n:Int))=n:=by omega
 have e2:¬((n:Int)<0):=by omega
 simp[Builtin.Str.strSliceIndices,e,e2]
theorem Dv(x:Str){a b:Nat}(hab:a<=b)(hb:b<=x.length):Txt.slice x (some (a:Int)) (some (b:Int))=ofL ((x.cps.toList.drop a).take (b-a)):=by
 unfold Txt.slice;rw[PySem.StrLaws.sliced_plain x hab hb];split
 ·rename_i h;rw[PySem.StrLaws.strSliceIndices_plain hab hb] at h;have hl:b-a=x.length:=by simpa using h
  have ea:a=0:=by omega
  subst ea;rw[Za8,Nat.sub_zero,Zbk (by rw[Za9];show x.length<=b;omega)]
  rfl
 ·rfl
theorem Dw(x:Str){b:Nat}(hb:b<=x.length):Txt.slice x none (some (b:Int))=ofL (x.cps.toList.take b):=by
 have:=Dv x (a:=0) (Zbg b) hb;rw[Za8,Nat.sub_zero] at this;rw[<-this];unfold Txt.slice;rw[Sq];rfl
theorem Ga(x:Str){a:Nat}(ha:a<=x.length):Txt.slice x (some (a:Int)) none=ofL (x.cps.toList.drop a):=by
 have:=Dv x ha (Zag x.length);rw[Zbk (by rw[List.length_drop,Za9];exact Zag _)] at this
 rw[<-this];unfold Txt.slice;rw[Ms]
theorem vV(a b:List Nat):ofL a++ofL b=ofL (a++b):=by
 apply Str.ext'
 apply Array.toList_inj.mp
 show((ofL a).cps++(ofL b).cps).toList=_
 rw[Array.toList_append];rfl
theorem PK{a b:List Nat}(h:ofL a=ofL b):a=b:=by
 have:=congrArg (λ(s:Str)=>s.cps.toList) h;exact this
theorem PL(c:Nat):(⟨#[c]⟩:Str)=ofL [c]:=rfl
theorem join_ones(cs:List Nat):Txt.join (Str.ofString "") (cs.map λc=>(⟨#[c]⟩:Str))=ofL cs:=by
 have go:∀ (cs:List Nat) (acc:Array Nat),((cs.map λc=>(⟨#[c]⟩:Str)).foldl (λacc p=>acc++(Str.ofString "").cps++p.cps) acc).toList=acc.toList++cs:=by
  intro cs;induction cs with
  |nil=>intro acc;simp
  |cons c cs ih=>
   intro acc;rw[Zai,List.foldl_cons,ih,Array.toList_append,Array.toList_append];show acc.toList++[]++[c]++cs=_
   simp
 apply Str.ext'
 apply Array.toList_inj.mp
 cases cs with
 |nil=>rfl
 |cons c cs=>exact go cs #[c]
theorem zb:∀ ys:List Str,nF (ys.map PV.str)=some ys
 |[]=>rfl
 |y::ys=>by rw[Zai,nF,zb ys];rfl
theorem Mt(cs:List Nat):((cs.map λc=>(⟨#[c]⟩:Str)).map (·.length)).sum=cs.length:=by
 induction cs with
 |nil=>rfl
 |cons c cs ih=>rw[Zai,Zai,List.sum_cons,ih,ZaP];show 1+_=_;omega
theorem Ij:∀ a:Fin 23,∀ d:Fin 23,a.val≠0->d.val≠0->a.val*d.val%23≠0:=by decide +kernel
theorem vN{s:Int}{a:Int}(a0:1<=a)(a1:a<=22){i j:Nat}(hi:i<23)(hj:j<23)(h:(s+a*i)%23=(s+a*j)%23):i=j:=by
 rcases Nat.lt_trichotomy i j with h1|h1|h1
 ·exfalso;have:=Ij ⟨a.toNat,by omega⟩ ⟨j-i,by omega⟩ (by show a.toNat≠0;omega) (by show j-i≠0;omega)
  apply this
  show a.toNat*(j-i)%23=0
  have e:a*((j:Int)-i)%23=0:=by
   have:a*((j:Int)-i)=(s+a*j)-(s+a*i):=by rw[Int.mul_sub];omega
   rw[this];omega
  have e2:a*((j:Int)-i)=((a.toNat*(j-i):Nat):Int):=by
   rw[Int.natCast_mul,ZaA (by omega),Int.natCast_sub (by omega)]
  rw[e2] at e;omega
 ·exact h1
 ·exfalso;have:=Ij ⟨a.toNat,by omega⟩ ⟨i-j,by omega⟩ (by show a.toNat≠0;omega) (by show i-j≠0;omega)
  apply this
  show a.toNat*(i-j)%23=0
  have e:a*((i:Int)-j)%23=0:=by
   have:a*((i:Int)-j)=(s+a*i)-(s+a*j):=by rw[Int.mul_sub];omega
   rw[this];omega
  have e2:a*((i:Int)-j)=((a.toNat*(i-j):Nat):Int):=by
   rw[Int.natCast_mul,ZaA (by omega),Int.natCast_sub (by omega)]
  rw[e2] at e;omega
def pg(n:Int):Nat:=97+n.toNat
def jx(base:List Nat)(at_:Nat)(way:Int)(k:Nat)(n:Int):List Nat:=
 if way=0 then base.take at_++[pg (n*5%26),pg n]++base.drop at_
 else if way=1 then[pg (n*5%26),pg n]++base.take (k%(base.length+1))
 else[pg n]++base
theorem JL{base:List Nat}{at_:Nat}(ha:at_<=base.length){way:Int}{k j:Nat}{n m:Int}(n0:0<=n)(m0:0<=m)(h:jx base at_ way k n=jx base at_ way j m):n=m:=by
 have inj:pg n=pg m->n=m:=λh=>by unfold pg at h;omega
 unfold jx at h;split at h
 ·have h1:=(List.append_inj_left h (by simp))
  have h2:=(List.append_inj_right h1 (by simp))
  simp only[List.cons.injEq] at h2;exact inj h2.2.1
 ·split at h
  ·have h1:=(List.append_inj_left h (by simp))
   simp only[List.cons.injEq] at h1;exact inj h1.2.1
  ·have h1:=(List.append_inj_left h (by simp))
   simp only[List.cons.injEq] at h1;exact inj h1.1
theorem Mu{base:List Nat}{at_:Nat}(hb:base.length<=6)(hl:∀ c∈base,isL c=true){way:Int}{k:Nat}{n:Int}(n0:0<=n)(n1:n<23):vo (ofL (jx base at_ way k n))=true:=by
 have l1:isL (pg n)=true:=Aj n0 (by omega)
 have l2:isL (pg (n*5%26))=true:=Aj (Zal _ (by decide)) (Zaj _ (by decide))
 have key:(1<=(jx base at_ way k n).length/\(jx base at_ way k n).length<=8)/\∀ c∈jx base at_ way k n,isL c=true:=by
  unfold jx;split
  ·refine⟨by simp;omega,λc hc=>?_⟩
   simp only[ZaU,Zao,ZaL,Zbo] at hc;rcases hc with(h|rfl|rfl)|h
   ·exact hl c (List.mem_of_mem_take h)
   ·exact l2
   ·exact l1
   ·exact hl c (List.mem_of_mem_drop h)
  ·split
   ·refine⟨by simp;omega,λc hc=>?_⟩
    simp only[ZaU,Zao,ZaL,Zbo] at hc;rcases hc with(rfl|rfl)|h
    ·exact l2
    ·exact l1
    ·exact hl c (List.mem_of_mem_take h)
   ·refine⟨by simp;omega,λc hc=>?_⟩
    simp only[ZaU,Zao,ZaL,Zbo] at hc;rcases hc with rfl|h
    ·exact l1
    ·exact hl c h
 unfold vo;rw[gW,ZaK key.1,Bool.true_and,ZaZ];exact key.2
theorem xH(c:Int)(M:Nat)(hM:M<=23):∃ ws:List Str,dF [.int c,.int (M:Int)]=some (.ok (.lst (ws.map .str)))/\ws.length=M/\(∀ w∈ws,vo w=true)/\ws.Nodup:=by
 suffices h:∃ p,dF [.int c,.int (M:Int)]=some (.ok p)/\∃ ws:List Str,p=.lst (ws.map .str)/\ws.length=M/\(∀ w∈ws,vo w=true)/\ws.Nodup by
  obtain⟨p,e,ws,rfl,h⟩:=h;exact⟨ws,e,h⟩
 refine Ad ?_;obtain⟨ns,e,nl,nb⟩:=jQ c 12 (by decide) (by decide)
 have at1:∀ i:Int,0<=i->i<12->atI (ns.map PV.int) i=some (.int (ns.getD i.toNat 0)):=λi h0 h1=>fP h0 (by omega)
 have big:∀ {n:Nat},n<=1000->n<=sizeLine:=λh=>ZaQ (bK h);have ll:(Str.ofString "abcdefghijklmnopqrstuvwxyz").length<=sizeLine:=by rw[PJ];decide
 unfold nQ;walk_at "rd"
 rw[e];walk_at "rd"
 simp only[at1 6 (by decide) (by decide)]
 walk_at "rd"
 have s6:ns.getD 6 0%7=(((ns.getD 6 0%7).toNat:Nat):Int):=(ZaA (Zal _ (by decide))).symm
 have s6':(ns.getD 6 0%7).toNat<=6:=by have:=Zaj (ns.getD 6 0) (b:=7) (by decide);omega
 have em:tU (ns.map PV.int) none (some (ns.getD 6 0%7))=(ns.take (ns.getD 6 0%7).toNat).map PV.int:=by
  rw[s6];unfold tU;rw[HT.BK,HT.Hc,Za8,Nat.sub_zero,List.map_take,Zak,List.length_map,Nat.min_eq_left (by omega)]
 rw[em];generalize hms:ns.take (ns.getD 6 0%7).toNat=ms
 have hm:ms.length<=6:=by rw[<-hms,Za6];omega
 refine⟨by decide,by rw[List.length_map];exact big (by omega),?_⟩
 rw[QW (λx=>match x with|.int n=>.str ⟨#[pg (n%26)]⟩|_=>.non)]
 ·have e2:(ms.map PV.int).map (λx=>match x with|.int n=>PV.str ⟨#[pg (n%26)]⟩|_=>.non)=((ms.map λn=>pg (n%26)).map λc=>(⟨#[c]⟩:Str)).map PV.str:=by
   rw[List.map_map,List.map_map,List.map_map];rfl
  walk_at "rd"
  rw[e2,zb];refine⟨_,rfl,?_,?_⟩
  ·rw[Mt,show(Str.ofString "").length=0 from rfl,List.length_map];omega
  ·rw[join_ones];have hbl:(ms.map λn=>pg (n%26)).length<=6:=by rw[List.length_map];exact hm
   have hba:∀ c∈ms.map λn=>pg (n%26),isL c=true:=λc hc=>by
    obtain⟨n,_,rfl⟩:=ZaR.mp hc;exact Aj (Zal _ (by decide)) (Zaj _ (by decide))
   generalize ms.map (λn=>pg (n%26))=base at hbl hba ⊢
   simp only[at1 7 (by decide) (by decide)]
   walk_at "rd"
   rw[gW];refine⟨big (by omega),by omega,?_⟩
   have a0:0<=ns.getD 7 0%(base.length+1:Int):=Zal _ (by omega)
   have a1:ns.getD 7 0%(base.length+1:Int)<base.length+1:=Zaj _ (by omega)
   obtain⟨at_,ha⟩:=ZaX a0;rw[ha] at a1 ⊢;have ha':at_<=base.length:=by omega
   have g0:1<=1+ns.getD 9 0%22:=by have:=Zal (ns.getD 9 0) (b:=22) (by decide);omega
   have g1:1+ns.getD 9 0%22<=22:=by have:=Zaj (ns.getD 9 0) (b:=22) (by decide);omega
   generalize hs8:ns.getD 8 0=s8
   generalize hgg:1+ns.getD 9 0%22=g at g0 g1
   generalize hwy:ns.getD 10 0%3=way
   refine⟨by omega,by omega,?_⟩
   refine dh (λi ρ=>∃ v7 v8 v9,ρ=[some (.sh (.int c)),some (.sh (.int (M:Int))),some (.sh (.str (Str.ofString "abcdefghijklmnopqrstuvwxyz"))),some (.sh (.lst (ns.map .int))),some (.sh (.str (ofL base))),some (.sh (.int at_)),some (.ow (.lst (((List.range i).map λk=>ofL (jx base at_ way k ((s8+g*k)%23))).map .str))),v7,v8,v9]) ⟨none,none,none,rfl⟩ ?_ ?_
   ·rintro i x ρ hx ⟨v7,v8,v9,rfl⟩;obtain⟨hi,rfl⟩:=iZ hx;have hi:i<23:=by rw[Zak] at hi;omega
    have n0:0<=(s8+g*i)%23:=Zal _ (by decide)
    have n1:(s8+g*i)%23<23:=Zaj _ (by decide)
    have m0:0<=(s8+g*i)%23*5%26:=Zal _ (by decide)
    have m1:(s8+g*i)%23*5%26<26:=Zaj _ (by decide)
    unfold p6;walk_at "rd"
    simp only[at1 8 (by decide) (by decide),at1 9 (by decide) (by decide),at1 10 (by decide) (by decide)]
    walk_at "rd"
    simp only[Int.reduceToNat,hs8,hgg,hwy,Zbf];refine⟨by decide,.inl ⟨by omega,by omega⟩,by decide,.inl ⟨by omega,by omega⟩,by decide,ll,_,Ai m0 m1,?_⟩
    refine⟨ll,_,Ai n0 (by omega),big (show 1+1<=1000 by decide),by decide,?_⟩
    generalize hnn:(s8+g*i)%23=n at n0 n1 m0 m1 ⊢
    have key:∀ y:Str,y=ofL (jx base at_ way i n)->((List.range i).map λk=>ofL (jx base at_ way k ((s8+g*k)%23)))++[y]=((List.range (i+1)).map λk=>ofL (jx base at_ way k ((s8+g*k)%23))):=λy hy=>by
     rw[List.range_succ,ZaN,hy,<-hnn];rfl
    have sz:(((List.range i).map λk=>ofL (jx base at_ way k ((s8+g*k)%23))).map PV.str).length<sizeLine:=by
     rw[List.length_map,List.length_map,ZaB];exact bK (by omega)
    have two:(⟨#[97+(n*5%26).toNat]⟩:Str)++(⟨#[97+n.toNat]⟩:Str)=ofL [pg (n*5%26),pg n]:=rfl;rw[two];have bl:(ofL base).length=base.length:=gW _;have bt:(ofL base).cps.toList=base:=rfl;refine jo (λhw=>?_) λhw=>?_
    ·unfold pW;walk_at "rd"
     rw[Dw (ofL base) (by rw[bl];exact ha'),Ga (ofL base) (by rw[bl];exact ha'),bt,vV,vV]
     rw[key _ (by unfold jx;rw[Zan hw])]
     refine⟨by rw[bl];exact big (by omega),by rw[gW,gW];exact big (by simp;omega),by rw[bl];exact big (by omega),by rw[gW,gW];exact big (by simp;omega),sz,_,_,_,rfl⟩
    ·unfold pZ;walk_at "rd"
     simp only[at1 10 (by decide) (by decide)]
     walk_at "rd"
     simp only[Int.reduceToNat,hwy];refine⟨by decide,jo (λhw1=>?_) λhw1=>?_⟩
     ·unfold pX;walk_at "rd"
      rw[bl,show(i:Int)%(base.length+1:Int)=((i%(base.length+1):Nat):Int) by rw[Int.natCast_emod];rfl]
      have hk:i%(base.length+1)<base.length+1:=Nat.mod_lt _ (by omega)
      rw[Dw (ofL base) (by rw[bl];omega),bt,vV]
      rw[key _ (by unfold jx;rw[Zap hw,Zan hw1])]
      refine⟨big (by omega),by omega,big (by omega),by rw[gW,gW];exact big (by simp;omega),sz,_,_,_,rfl⟩
     ·unfold pY;walk_at "rd"
      refine⟨ll,_,Ai n0 (by omega),?_⟩
      rw[PL,vV];rw[key _ (by unfold jx;rw[Zap hw,Zap hw1];rfl)]
      refine⟨by rw[gW,gW];exact big (by simp;omega),sz,_,_,_,rfl⟩
   ·rintro ρ ⟨v7,v8,v9,rfl⟩;rw[b8,Zak];unfold p7;walk_at "rd"
    refine⟨_,rfl,by rw[List.length_map,ZaB],λw hw=>?_,?_⟩
    ·obtain⟨k,_,rfl⟩:=ZaR.mp hw;exact Mu hbl hba (Zal _ (by decide)) (Zaj _ (by decide))
    ·refine List.pairwise_map.mpr (List.Pairwise.imp_of_mem (λ{a b} ha hb hab h=>hab ?_) (List.nodup_range (n:=M)));exact vN g0 g1 (Zas (ZaS.mp ha) hM) (Zas (ZaS.mp hb) hM) (JL ha' (Zal _ (by decide)) (Zal _ (by decide)) (PK h))
 ·intro x hx;obtain⟨n,hn,rfl⟩:=ZaR.mp hx;walk_at "rd"
  exact⟨by decide,ll,_,Ai (Zal _ (by decide)) (Zaj _ (by decide)),rfl⟩
theorem JM(c:Int):∃ ws:List Str,dF [.int c,.int 23]=some (.ok (.lst (ws.map .str)))/\ws.length=23/\(∀ w∈ws,vo w=true)/\ws.Nodup:=xH c 23 (by decide)
def prP(p:Str×Str):PV:=.tup [.str p.1,.str p.2]
inductive Ink where
 |cov (name colour:Str)
 |glz (name:Str) (ps:List (Str×Str))
def Ink.name:Ink->Str
 |.cov n _=>n
 |.glz n _=>n
def dq:Ink->PV
 |.cov n c=>.tup [.str "cover",.str n,.str c]
 |.glz n ps=>.tup [.str "glaze",.str n,.tup (ps.map prP)]
theorem Uj(l:List (Str×Str))(a b:Str):l.map prP++[PV.tup [.str a,.str b]]=(l++[(a,b)]).map prP:=by rw[ZaN];rfl
theorem JN{a b:Nat}{body:Sn}{QS:Out->Prop}(I:Nat->Rho->Prop){l:List (Str×Str)}{ρ:Rho}(h0:I 0 ρ)
  (hs:∀ (i:Nat) p ρ,l[i]?=some p->I i ρ->To (body ((ρ.set a (some (.sh (.str p.1)))).set b (some (.sh (.str p.2))))) (turn (I (i+1)) QS))(hd:∀ ρ',I l.length ρ'->QS (.nx ρ')):To (loop (gT 2 (gsCons (gN a) (gsCons (gN b) gsNil))) body (l.map prP) ρ) QS:=by
 have:=Mp (a:=a) (b:=b) (body:=body) (QS:=QS) I (l:=l.map λp=>(PV.str p.1,PV.str p.2)) (ρ:=ρ) h0 (λi x y ρ hx hI=>by
  rw[Zac] at hx;cases hp:l[i]? with
  |none=>rw[hp] at hx;cases hx
  |some p=>rw[hp] at hx;cases hx;exact hs i p ρ hp hI) (by rw[List.length_map];exact hd)
 rw[List.map_map] at this;exact this
def JP(cols:List Str)(ps:List (Str×Str)):Prop:=ps.length<=8/\(∀ p∈ps,p.1∈cols/\p.2∈cols)/\(ps.map (·.1)).Nodup
def qe(cols:List Str):Ink->Prop
 |.cov _ c=>c∈cols
 |.glz _ ps=>ps≠[]/\JP cols ps
theorem xJ{cs:List Str}{i:Int}(h0:0<=i)(h1:i<cs.length):∃ y,atI (cs.map PV.str) i=some (.str y)/\y∈cs/\cs[i.toNat]?=some y:=by
 obtain⟨y,e1,e2⟩:=BX (xs:=cs) h0 h1;exact⟨y,by rw[Pk,e1];rfl,ZaI e2,e2⟩
theorem PN(a:Str)(l:List Str):inF (.str a) (l.map PV.str)=some (decide (a∈l)):=HW (g:=PV.str) (λa b=>eqF_str 31 a b) a l
theorem Mv(ps:List (Str×Str))(cols:List Str)(h0:cols≠[])(hc:cols.length<=23)(ns:List Int)(hn:ns.length=4)(hp:JP cols ps) :
  ∃ ps':List (Str×Str),jg [.lst (ps.map prP),.lst (cols.map .str),.lst (ns.map .int)]=some (.ok (.lst (ps'.map prP)))/\JP cols ps'/\ps'≠[]:=by
 suffices h:∃ p,jg [.lst (ps.map prP),.lst (cols.map .str),.lst (ns.map .int)]=some (.ok p)/\∃ ps':List (Str×Str),p=.lst (ps'.map prP)/\JP cols ps'/\ps'≠[] by
  obtain⟨p,e,z,rfl,h⟩:=h;exact⟨z,e,h⟩
 have hl:0<cols.length:=by cases cols with|nil=>exact absurd rfl h0|cons=>simp
 have at1:∀ i:Int,0<=i->i<4->atI (ns.map PV.int) i=some (.int (ns.getD i.toNat 0)):=λi h0 h1=>fP h0 (by omega)
 have big:∀ {n:Nat},n<=1000->n<=sizeLine:=λh=>ZaQ (bK h);refine Mm ?_;rw[show jJ 0 [PV.lst (ps.map prP),.lst (cols.map .str),.lst (ns.map .int)] 1=[some (.ow (.lst (ps.map prP))),some (.sh (.lst (cols.map .str))),some (.sh (.lst (ns.map .int))),none] from rfl];unfold p8;walk_at "rd"
 simp only[at1 1 (by decide) (by decide),List.length_map]
 walk_at "rd"
 obtain⟨u,eu,hu,_⟩:=xJ (cs:=cols) (i:=ns.getD 1 0%(cols.length:Int)) (Zal _ (by omega)) (Zaj _ (by omega))
 obtain⟨o,eo,ho,_⟩:=xJ (cs:=cols) (i:=ns.getD 2 0%(cols.length:Int)) (Zal _ (by omega)) (Zaj _ (by omega))
 refine⟨by omega,_,eu,jo (λh8=>?_) λh8=>?_⟩
 ·refine⟨big (by have:=hp.1;omega),?_⟩
  rw[QW (λx=>match x with|.tup (a::_)=>a|_=>.non)]
  ·have e:(ps.map prP).map (λx=>match x with|.tup (a::_)=>a|_=>.non)=(ps.map (·.1)).map PV.str:=by
    rw[List.map_map,List.map_map];rfl
   walk_at "rd"
   rw[e];refine⟨_,PN u _,?_⟩;walk_at "rd"
   refine jo (λhn=>?_) λhn=>?_
   ·unfold rA;walk_at "rd"
    simp only[at1 2 (by decide) (by decide),List.length_map]
    walk_at "rd"
    refine⟨by omega,_,eo,by decide,bK (by omega),?_⟩
    rw[Uj];refine⟨_,rfl,⟨by rw[List.length_append];show _+1<=8;omega,λp hp'=>?_,?_⟩,by simp⟩
    ·rcases ZaU.mp hp' with h|h
     ·exact hp.2.1 p h
     ·rw[ZaW.mp h];exact⟨hu,ho⟩
    ·rw[ZaN,List.nodup_append];refine⟨hp.2.2,by simp,λa ha b hb e=>?_⟩
     have:b=u:=by simpa using hb
     subst this;subst e;have hn:¬a∈ps.map (·.1):=by simpa using hn
     exact hn ha
   ·have hn:u∈ps.map (·.1):=by simpa using hn
    refine⟨_,rfl,hp,λe=>?_⟩;rw[e] at hn;simp at hn
  ·intro x hx;obtain⟨p,_,rfl⟩:=ZaR.mp hx;unfold prP;walk_at "rd"
 ·refine⟨_,rfl,hp,λe=>?_⟩;rw[e] at h8;simp at h8
theorem PP(name:Str)(cells:List Int)(hc0:cells≠[])(hcl:cells.length<=63)(cols:List Str)(h0:cols≠[])(hc:cols.length<=23) :
  ∃ k:Ink,j6 [.str name,.lst (cells.map .int),.lst (cols.map .str)]=some (.ok (dq k))/\k.name=name/\qe cols k:=by
 suffices h:∃ p,j6 [.str name,.lst (cells.map .int),.lst (cols.map .str)]=some (.ok p)/\∃ k:Ink,p=dq k/\k.name=name/\qe cols k by
  obtain⟨p,e,z,rfl,h⟩:=h;exact⟨z,e,h⟩
 have hl:0<cols.length:=by cases cols with|nil=>exact absurd rfl h0|cons=>simp
 have hcl0:0<cells.length:=by cases cells with|nil=>exact absurd rfl hc0|cons=>simp
 refine pO ?_;unfold sO;walk_at "rd"
 refine pN (λi ρ=>∃ (ps:List (Str×Str)) (v4 v5 v6:Option Sl),ρ=[some (.sh (.str name)),some (.sh (.lst (cells.map .int))),some (.sh (.lst (cols.map .str))),some (.ow (.lst (ps.map prP))),v4,v5,v6]/\JP cols ps/\(0<i->ps≠[]))
  ⟨[],none,none,none,rfl,⟨by simp,by simp,by simp⟩,λh=>absurd h (by omega)⟩ ?_ ?_
 ·rintro i x ρ hx ⟨ps,v4,v5,v6,rfl,hp,hpi⟩;obtain⟨n,_,rfl⟩:=ZaR.mp (ZaI hx);have hi:i<cells.length:=by simpa using bT hx
  obtain⟨ns,e,nl,nb⟩:=jQ (n+31*i) 4 (by decide) (by decide)
  have at1:∀ i:Int,0<=i->i<4->atI (ns.map PV.int) i=some (.int (ns.getD i.toNat 0)):=λi h0 h1=>fP h0 (by omega)
  obtain⟨ps',ep,hp',np⟩:=Mv ps cols h0 hc ns (by omega) hp
  unfold uc;walk_at "rd"
  refine⟨.inl ⟨by decide,by omega⟩,?_⟩
  rw[e];walk_at "rd"
  simp only[at1 0 (by decide) (by decide)]
  walk_at "rd"
  have go:To (nR [some (.sh (.str name)),some (.sh (.lst (cells.map .int))),some (.sh (.lst (cols.map .str))),some (.ow (.lst (ps.map prP))),some (.sh (.int i)),some (.sh (.int n)),some (.sh (.lst (ns.map .int)))]) (turn (λρ=>∃ (ps:List (Str×Str)) (v4 v5 v6:Option Sl),ρ=[some (.sh (.str name)),some (.sh (.lst (cells.map .int))),some (.sh (.lst (cols.map .str))),some (.ow (.lst (ps.map prP))),v4,v5,v6]/\JP cols ps/\(0<i+1->ps≠[])) (Aa (λρ'=>To (nT ρ') λo=>∃ p,fin (some o)=some (.ok p)/\∃ k:Ink,p=dq k/\k.name=name/\qe cols k) λo=>∃ p,fin (some o)=some (.ok p)/\∃ k:Ink,p=dq k/\k.name=name/\qe cols k)):=by
   unfold nR;walk_at "rd"
   rw[ep];walk_at "rd"
   exact⟨ps',_,_,_,rfl,hp',λ_=>np⟩
  refine jo (λhi0=>⟨by decide,jo (λh3=>?_) λh3=>go⟩) λhi0=>go
  unfold t8;walk_at "rd"
  simp only[at1 1 (by decide) (by decide),List.length_map]
  walk_at "rd"
  obtain⟨u,eu,hu,_⟩:=xJ (cs:=cols) (i:=ns.getD 1 0%(cols.length:Int)) (Zal _ (by omega)) (Zaj _ (by omega))
  exact⟨by omega,_,eu,by decide,.cov name u,rfl,rfl,hu⟩
 ·rintro ρ ⟨ps,v4,v5,v6,rfl,hp,hpi⟩;rw[List.length_map] at hpi;unfold nT;walk_at "rd"
  exact⟨by decide,.glz name ps,rfl,rfl,hpi hcl0,hp⟩
structure vW(paper:Str)(inks:List Ink):Prop where
 l0:inks≠[]
 l8:inks.length<=8
 nd:(inks.map Ink.name).Nodup
 ex:∃ cols:List Str,paper∈cols/\(∀ w∈cols,vo w=true)/\∀ k∈inks,vo k.name=true/\qe cols k
def sS(paper:Str)(inks:List Ink):PV:=.tup [.str paper,.lst (inks.map dq)]
theorem JQ{a b st:Int}(hs:1<=st)(h0:0<=a)(h1:b<=63):(sliceRange a b st).length<=63:=by
 unfold sliceRange;rw[List.length_map,ZaB,Zan (by omega:st>0)]
 split
 ·have:(b-a+st-1)/st<=b-a:=by
   have hb:b-a+st-1<=(b-a)*st:=by
    have:(b-a-1)*1<=(b-a-1)*st:=Int.mul_le_mul_of_nonneg_left hs (by omega)
    have e:(b-a)*st=(b-a-1)*st+st:=by rw[Int.sub_mul (b-a) 1 st];omega
    omega
   have:=Int.ediv_le_ediv (by omega:0<st) hb
   rwa [Int.mul_ediv_cancel _ (by omega)] at this
  omega
 ·simp
theorem Mw(ns:List Int)(lo:Int)(h0:0<=lo)(m:Int)(hm:1<=m):∃ ms:List Int,CK (ns.map PV.int) (some lo) (some 63) (some m)=ms.map PV.int/\ms.length<=63:=by
 unfold CK;generalize hb:sliceBounds (some lo) (some 63) (some m) (ns.map PV.int).length=bd
 have hl:(sliceRange bd.1 bd.2.1 bd.2.2).length<=63:=by
  rw[<-hb];have hp:m>0:=by omega
  have n1:¬(lo<0):=by omega
  simp only[sliceBounds,Option.getD_some,hp,n1,Za7,ZaT];exact JQ hm (by omega) (by split<;>omega)
 have go:∀ js:List Nat,∃ ms:List Int,js.filterMap (λi=>(ns.map PV.int)[i]?)=ms.map PV.int/\ms.length<=js.length:=by
  intro js;induction js with
  |nil=>exact⟨[],rfl,Zag _⟩
  |cons j js ih=>
   obtain⟨ms,e,hl⟩:=ih;cases h:ns[j]? with
   |none=>exact⟨ms,by rw[Za4 (by rw[Zac,h];rfl),e],by simp;omega⟩
   |some n=>exact⟨n::ms,by rw[Za5 (by rw[Zac,h];rfl),e];rfl,by simp;omega⟩
 obtain⟨ms,e,hml⟩:=go (sliceRange bd.1 bd.2.1 bd.2.2);exact⟨ms,e,by omega⟩
theorem JR(l:List PV)(k:Nat)(hk:k<=l.length):tU l none (some (k:Int))=l.take k:=by
 unfold tU;rw[HT.BK,HT.Hc,Nat.min_eq_left hk,Za8,Nat.sub_zero]
theorem JS{α:Type}{l:List α}(h:l.Nodup){x y:Nat}{v:α}(hx:l[x]?=some v)(hy:l[y]?=some v):x=y:=by
 have lx:=bT hx;have ly:=bT hy;rw[Zab lx] at hx;rw[Zab ly] at hy;have e:l[x]=l[y]:=by rw[Zaa hx,Zaa hy]
 have p:=List.pairwise_iff_getElem.mp h;rcases Nat.lt_trichotomy x y with q|q|q
 ·exact absurd e (p x y lx ly q)
 ·exact q
 ·exact absurd e.symm (p y x ly lx q)
theorem JT(ns:List Int)(hn:ns.length<=63):∃ (paper:Str) (inks:List Ink),ik [.lst (ns.map .int)]=some (.ok (sS paper inks))/\vW paper inks:=by
 suffices h:∃ p,ik [.lst (ns.map .int)]=some (.ok p)/\∃ (paper:Str) (inks:List Ink),p=sS paper inks/\vW paper inks by
  obtain⟨p,e,a,b,rfl,h⟩:=h;exact⟨a,b,e,h⟩
 have big:∀ {n:Nat},n<=1000->n<=sizeLine:=λh=>ZaQ (bK h);obtain⟨c0,ec0⟩:=kh ns 0 (by decide)
 obtain⟨c1,ec1⟩:=kh ns 1 (by decide)
 obtain⟨fs,ef,fl,fb⟩:=jQ c0 6 (by decide) (by decide)
 have at1:∀ i:Int,0<=i->i<6->atI (fs.map PV.int) i=some (.int (fs.getD i.toNat 0)):=λi h0 h1=>fP h0 (by omega)
 obtain⟨ws,ew,wl,ww,wn⟩:=JM c1;refine pO ?_;unfold nU;walk_at "rd"
 simp only[ec0,ec1];walk_at "rd"
 rw[ef];walk_at "rd"
 rw[ew];walk_at "rd"
 simp only[at1 0 (by decide) (by decide),at1 1 (by decide) (by decide)]
 walk_at "rd"
 obtain⟨cn,ecn,cn1,cn10⟩:∃ cn:Nat,atI [PV.int (1+fs.getD 1 0%10),PV.int 10] (fs.getD 1 0/10%2)=some (.int cn)/\1<=cn/\cn<=10:=by
  have h0:0<=fs.getD 1 0%10:=Zal _ (by decide)
  have h1:fs.getD 1 0%10<10:=Zaj _ (by decide)
  rcases(show fs.getD 1 0/10%2=0\/fs.getD 1 0/10%2=1 by omega) with h|h
  ·rw[h,atI_0];exact⟨(1+fs.getD 1 0%10).toNat,by rw[ZaA (by omega)],by omega,by omega⟩
  ·rw[h,atI_1];exact⟨10,rfl,by decide,by decide⟩
 have m0:0<=fs.getD 0 0%8:=Zal _ (by decide)
 have m1:fs.getD 0 0%8<8:=Zaj _ (by decide)
 refine⟨by decide,by decide,by decide,by decide,by decide,by decide,_,ecn,?_⟩
 walk_at "rd"
 rw[JR (ws.map PV.str) cn (by rw[List.length_map];omega),<-List.map_take]
 have cl:(ws.take cn).length=cn:=by rw[Za6];omega
 have cw:∀ w∈ws.take cn,vo w=true:=λw h=>ww w (List.mem_of_mem_take h);have cne:ws.take cn≠[]:=λe=>by rw[e] at cl;simp at cl;omega
 generalize ws.take cn=cols at cl cw cne ⊢
 have g0:1<=1+fs.getD 3 0%22:=by have:=Zal (fs.getD 3 0) (b:=22) (by decide);omega
 have g1:1+fs.getD 3 0%22<=22:=by have:=Zaj (fs.getD 3 0) (b:=22) (by decide);omega
 generalize hgg:1+fs.getD 3 0%22=g at g0 g1
 generalize hf2:fs.getD 2 0=f2
 generalize hmm:1+fs.getD 0 0%8=many
 have nmx:∀ k:Nat,∃ y,atI (ws.map PV.str) ((f2+g*(k:Int))%23)=some (.str y)/\y∈ws/\ws[((f2+g*(k:Int))%23).toNat]?=some y:=λk=>
  xJ (Zal _ (by decide)) (by rw[wl];exact Zaj _ (by decide))
 refine⟨by omega,by omega,?_⟩
 refine dh (λi ρ=>∃ (inks:List Ink) (v6 v7 v8:Option Sl),ρ=[some (.sh (.lst (ns.map .int))),some (.sh (.lst (fs.map .int))),some (.sh (.lst (ws.map .str))),some (.sh (.int many)),some (.sh (.lst (cols.map .str))),some (.ow (.lst (inks.map dq))),v6,v7,v8]/\inks.length=i/\(∀ (j:Nat) k,inks[j]?=some k->ws[((f2+g*(j:Int))%23).toNat]?=some k.name)/\∀ k∈inks,qe cols k)
  ⟨[],none,none,none,rfl,rfl,λj k h=>by simp at h,λk h=>by simp at h⟩ ?_ ?_
 ·rintro i x ρ hx ⟨inks,v6,v7,v8,rfl,il,inm,iok⟩;obtain⟨hi,rfl⟩:=iZ hx;obtain⟨nm,enm,hnm,hnm2⟩:=nmx i;rw[show(0:Int)+(i:Int)=i from Zbf _];unfold qd;walk_at "rd"
  simp only[at1 2 (by decide) (by decide),at1 3 (by decide) (by decide)]
  walk_at "rd"
  simp only[Int.reduceToNat,hgg,hf2];refine⟨by decide,.inl ⟨by omega,by omega⟩,by decide,_,enm,?_⟩
  obtain⟨ms,ems,hms⟩:=Mw ns (2+(i:Int)) (by omega) many (by omega)
  rw[ems];have ee:eqF 32 (.lst (ms.map PV.int)) (.lst [])=some (decide (ms=[])):=Pj (g:=PV.int) (n:=31) (λa b=>eqF_int 31 a b) ms [];refine⟨by first|omega|(intro e;have:=Zaa e;omega),_,ee,?_⟩
  walk_at "rd"
  have go:∀ cs:List Int,cs≠[]->cs.length<=63->To (j7 [some (.sh (.lst (ns.map .int))),some (.sh (.lst (fs.map .int))),some (.sh (.lst (ws.map .str))),some (.sh (.int many)),some (.sh (.lst (cols.map .str))),some (.ow (.lst (inks.map dq))),some (.sh (.int i)),some (.sh (.str nm)),some (.sh (.lst (cs.map .int)))]) (turn (λρ=>∃ (inks:List Ink) (v6 v7 v8:Option Sl),ρ=[some (.sh (.lst (ns.map .int))),some (.sh (.lst (fs.map .int))),some (.sh (.lst (ws.map .str))),some (.sh (.int many)),some (.sh (.lst (cols.map .str))),some (.ow (.lst (inks.map dq))),v6,v7,v8]/\inks.length=i+1/\(∀ (j:Nat) k,inks[j]?=some k->ws[((f2+g*(j:Int))%23).toNat]?=some k.name)/\∀ k∈inks,qe cols k) (Aa (λρ'=>To (j8 ρ') λo=>∃ p,fin (some o)=some (.ok p)/\∃ (paper:Str) (inks:List Ink),p=sS paper inks/\vW paper inks) λo=>∃ p,fin (some o)=some (.ok p)/\∃ (paper:Str) (inks:List Ink),p=sS paper inks/\vW paper inks)):=λcs h0 hl=>by
   obtain⟨k,ek,kn,kok⟩:=PP nm cs h0 hl cols cne (by omega)
   unfold j7;walk_at "rd"
   rw[ek];walk_at "rd"
   refine⟨by rw[List.length_map];exact bK (by omega),inks++[k],some (.sh (.int i)),some (.sh (.str nm)),some (.sh (.lst (cs.map .int))),?_,by simp[il],λj k' h=>?_,λk' h=>?_⟩
   ·rw[ZaN];rfl
   ·rw[List.getElem?_append] at h;split at h
    ·exact inm j k' h
    ·rename_i hj;have hj2:j-inks.length=0:=by
      have:=bT h;simp at this;omega
     rw[hj2] at h;cases h;rw[show j=i by omega,kn]
     exact hnm2
   ·rcases ZaU.mp h with h|h
    ·exact iok k' h
    ·rw[ZaW.mp h];exact kok
  refine jo (λh=>?_) λh=>go ms h hms;unfold qb;walk_at "rd"
  simp only[at1 4 (by decide) (by decide)]
  walk_at "rd"
  exact⟨by decide,go [_] (by simp) (by simp)⟩
 ·rintro ρ ⟨inks,v6,v7,v8,rfl,il,inm,iok⟩;rw[b8] at il;unfold j8;walk_at "rd"
  rw[Sd rfl];walk_at "rd"
  simp only[at1 5 (by decide) (by decide),List.length_map]
  walk_at "rd"
  obtain⟨u,eu,hu,_⟩:=xJ (cs:=cols) (i:=fs.getD 5 0%(cols.length:Int)) (Zal _ (by omega)) (Zaj _ (by omega))
  refine⟨by omega,_,eu,by decide,u,inks,rfl,⟨λe=>?_,by omega,?_,cols,hu,cw,λk hk=>⟨?_,iok k hk⟩⟩⟩
  ·rw[e] at il;simp at il;omega
  ·refine List.pairwise_iff_getElem.mpr λa b ha hb hab e=>?_;rw[List.length_map] at ha hb;rw[List.getElem_map,List.getElem_map] at e;have e1:=inm a _ (Zab ha);have e2:=inm b _ (Zab hb);rw[e] at e1;have:=JS wn e1 e2;have n0:0<=(f2+g*(a:Int))%23:=Zal _ (by decide)
   have n1:0<=(f2+g*(b:Int))%23:=Zal _ (by decide)
   have:=vN g0 g1 (s:=f2) (i:=a) (j:=b) (by omega) (by omega) (by omega)
   omega
  ·obtain⟨j,hj,ej⟩:=List.mem_iff_getElem.mp hk;have:=inm j k (by rw[Zab hj,ej])
   exact ww _ (ZaI this)
theorem xK{f:PV->PV->Option Bool}:∀ {l:List PV},(∀ x∈l,f x x=some true)->eqL f l l=some true
 |[],_=>rfl
 |x::xs,h=>by rw[eqL,h x List.mem_cons_self,xK λy hy=>h y (List.mem_cons_of_mem _ hy)];rfl
theorem gm{n:Nat}{l:List PV}(h:∀ x∈l,eqF n x x=some true):eqF (n+1) (.tup l) (.tup l)=some true:=by
 exact xK h
theorem uh{n:Nat}{l:List PV}(h:∀ x∈l,eqF n x x=some true):eqF (n+1) (.lst l) (.lst l)=some true:=by
 exact(Zan rfl).trans (xK h)
theorem fK(n:Nat)(z:Str):eqF n (.str z) (.str z)=some true:=by rw[eqF_str,ZaK rfl]
theorem jl(n:Nat)(z:Int):eqF n (.int z) (.int z)=some true:=by rw[eqF_int,ZaK rfl]
theorem jb{α:Type}{j:Nat}{el:Fn PV}{ρb:Rho}(g f:α->PV):∀ (l:List α),(∀ a∈l,Tv (el (ρb.set j (some (.sh (g a))))) λp=>p=f a)->d7 (gN j) mG el ρb (l.map g)=some (.ok (l.map f))
 |[],_=>rfl
 |a::l,h=>by
  have e1:=j4 (h a List.mem_cons_self);have ih:=jb g f l λb hb=>h b (List.mem_cons_of_mem _ hb);rw[Zai,d7];simp only[gN,mG,bnd,Za7,e1,ih,Zai]
theorem Ik{α:Type}{j:Nat}{tst:Fn Bool}{el:Fn PV}{ρb:Rho}(g f:α->PV)(t:α->Bool):∀ (l:List α),(∀ a∈l,Tv (tst (ρb.set j (some (.sh (g a))))) λb=>b=t a)->(∀ a∈l,t a=true->Tv (el (ρb.set j (some (.sh (g a))))) λp=>p=f a)->d7 (gN j) tst el ρb (l.map g)=some (.ok ((l.filter t).map f))
 |[],_,_=>rfl
 |a::l,h,h2=>by
  have e0:=j4 (h a List.mem_cons_self);have ih:=Ik g f t l (λb hb=>h b (List.mem_cons_of_mem _ hb)) λb hb=>h2 b (List.mem_cons_of_mem _ hb);rw[Zai,d7];simp only[gN,bnd,e0,ih];cases ht:t a with
  |true=>
   have e1:=j4 (h2 a List.mem_cons_self ht);simp only[Za7,e1,List.filter_cons,ht,Zai]
  |false=>simp only[Bool.false_eq_true,ZaT,List.filter_cons,ht]
theorem Mx(n:Nat)(k:Ink):eqF (n+3) (dq k) (dq k)=some true:=by
 cases k with
 |cov a b=>
  refine gm λx hx=>?_;simp only[Zao,ZaL,Zbo] at hx;rcases hx with rfl|rfl|rfl<;>exact fK _ _
 |glz a ps=>
  refine gm λx hx=>?_;simp only[Zao,ZaL,Zbo] at hx;rcases hx with rfl|rfl|rfl
  ·exact fK _ _
  ·exact fK _ _
  ·refine gm λx hx=>?_;obtain⟨p,_,rfl⟩:=ZaR.mp hx;refine gm λx hx=>?_;simp only[Zao,ZaL,Zbo] at hx;rcases hx with rfl|rfl<;>exact fK _ _
theorem Gb(n:Nat)(paper:Str)(inks:List Ink):eqF (n+5) (sS paper inks) (sS paper inks)=some true:=by
 refine gm λx hx=>?_;simp only[Zao,ZaL,Zbo] at hx;rcases hx with rfl|rfl
 ·exact fK _ _
 ·refine uh λx hx=>?_;obtain⟨k,_,rfl⟩:=ZaR.mp hx;exact Mx n k
def lkp(ps:List (Str×Str))(c:Str):Str:=match ps.find? (λp=>decide (p.1=c)) with
 |some p=>p.2
 |none=>c
def Ak:Ink->Str->Str
 |.cov _ d,_=>d
 |.glz _ ps,c=>lkp ps c
theorem PQ(k:Ink)(c:Str):Ag [dq k,.str c]=some (.ok (.str (Ak k c))):=by
 refine dY (x:=Af (startR [dq k,.str c] 2)) ?_;unfold Af;cases k with
 |cov n d=>
  unfold dq;walk_at "rd"
  unfold Do;walk_at "rd"
  rfl
 |glz n ps=>
  unfold dq;walk_at "rd"
  rw[Zap (by decide)]
  unfold Dt;walk_at "rd"
  refine JN (λi ρ=>∃ v2 v3,ρ=[some (.sh (dq (.glz n ps))),some (.sh (.str c)),v2,v3]/\(ps.take i).find? (λp=>decide (p.1=c))=none) ⟨none,none,rfl,rfl⟩ ?_ ?_
  ·rintro i p ρ hp ⟨v2,v3,rfl,hf⟩;have tk:ps.take (i+1)=ps.take i++[p]:=by rw[List.take_succ,hp];rfl
   unfold Dr;walk_at "rd"
   refine jo (λh=>?_) λh=>?_
   ·unfold Dq;walk_at "rd"
    have e:ps.find? (λp=>decide (p.1=c))=some p:=by
     have hs:ps=ps.take (i+1)++ps.drop (i+1):=(List.take_append_drop _ _).symm;rw[hs,List.find?_append,tk,List.find?_append,hf];simp[h]
    show _=lkp ps c
    unfold lkp;rw[e]
   ·refine⟨_,_,rfl,?_⟩;rw[tk,List.find?_append,hf];simp[h]
  ·rintro ρ ⟨v2,v3,rfl,hf⟩;rw[List.take_length] at hf;unfold Ds;walk_at "rd"
   show _=lkp ps c
   unfold lkp;rw[hf]
def zc:Ink:=.cov ⟨#[]⟩ ⟨#[]⟩
def cF(inks:List Ink)(paper:Str)(st:List Nat):Str:=st.foldl (λc n=>Ak (inks.getD n zc) c) paper
theorem Al(paper:Str)(inks:List Ink)(st:List Nat)(hs:∀ n∈st,n<inks.length):lF [.tup [.str paper,.lst (inks.map dq)],.tup (st.map λ(n:Nat)=>PV.int (n:Int))]=some (.ok (.str (cF inks paper st))):=by
 refine dY (x:=lE (startR [.tup [.str paper,.lst (inks.map dq)],.tup (st.map λ(n:Nat)=>PV.int (n:Int))] 2)) ?_;unfold lE;walk_at "rd"
 refine dh (λi ρ=>∃ v3,ρ=[some (.sh (.tup [.str paper,.lst (inks.map dq)])),some (.sh (.tup (st.map λ(n:Nat)=>PV.int (n:Int)))),some (.sh (.str (cF inks paper (st.take i)))),v3]) ⟨none,rfl⟩ ?_ ?_
 ·rintro i x ρ hx ⟨v3,rfl⟩;rw[Zac] at hx;cases hn:st[i]? with
  |none=>rw[hn] at hx;cases hx
  |some n=>
   rw[hn] at hx;cases hx;have hl:=hs n (ZaI hn);unfold qZ;walk_at "rd"
   refine⟨dq (inks.getD n zc),?_,?_⟩
   ·refine cP ?_;rw[Zac,Zab hl,ZaG,Zab hl];rfl
   ·rw[PQ];walk_at "rd"
    refine⟨some (.sh (.int n)),?_⟩;rw[List.take_succ,hn];unfold cF;rw[List.foldl_append];rfl
 ·rintro ρ ⟨v3,rfl⟩;rw[List.length_map,List.take_length];unfold q9;walk_at "rd"
theorem Dy{α:Type}(g:α->PV)(d:α)(l:List α):pH (l.map g)=(List.range l.length).map λ(i:Nat)=>PV.tup [.int (i:Int),g (l.getD i d)]:=by
 apply List.ext_getElem?
 intro i;unfold pH;rw[List.getElem?_mapIdx,Zac,Zac];by_cases h:i<l.length
 ·rw[Zab h,ZaJ h];show some (PV.tup [PV.int (i:Int),g l[i]])=some (PV.tup [PV.int (i:Int),g (l.getD i d)])
  rw[ZaG,Zab h];rfl
 ·rw[ZaD (by omega),ZaD (by rw[ZaB];omega)]
  rfl
def nZ(states:List Nat)(p:Nat):List Nat:=(List.range states.length).filter λk=>(states.getD k 0).testBit p
def ul(l:List Nat):PV:=.lst (l.map λ(n:Nat)=>PV.int (n:Int))
theorem Dz{w h c r:Int}(sz:Sz w h)(cl:Cell w h c r)(states:List Nat)(hl:states.length<=1000):nP [.tup [.int w,.int h],ul states,.tup [.int c,.int r]]=some (.ok (.tup ((nZ states (Mth.pl w.toNat (c,r))).map λ(n:Nat)=>PV.int (n:Int)))):=by
 refine dY (x:=nO (startR [.tup [.int w,.int h],ul states,.tup [.int c,.int r]] 0)) ?_;unfold nO ul;walk_at "rd"
 rw[Dy (λn=>PV.int ((n:Nat):Int)) 0 states];refine⟨by rw[List.length_map,ZaB];exact ZaQ (bK hl),?_⟩
 rw[xq (λx=>match x with|.tup [_,.int s]=>s.toNat.testBit (Mth.pl w.toNat (c,r))|_=>false) (λx=>match x with|.tup [a,_]=>a|_=>.non)]
 ·walk_at "rd"
  rw[List.filter_map,List.map_map];unfold nZ;rfl
 ·intro x hx;obtain⟨i,hi,rfl⟩:=ZaR.mp hx;refine⟨_,rfl,?_,?_⟩
  ·refine j4 ?_;walk_at "rd"
   rw[Sh sz cl];walk_at "rd"
   rw[Zak]
  ·intro _;refine j4 ?_;walk_at "rd"
def DG(w h:Nat)(f:Nat->Nat->Str):PV:=.lst ((List.range h).map λr=>.lst ((List.range w).map λc=>.str (f c r)))
theorem xM(n:Nat):mF 0 n=(List.range n).map λi=>PV.int ((i:Nat):Int):=by
 unfold mF;exact List.map_congr_left λi _=>by rw[Zbf]
theorem xN{w h:Int}(sz:Sz w h)(paper:Str)(inks:List Ink)(states:List Nat)(hl:states.length<=inks.length)(h8:inks.length<=8){r:Nat}(hr:r<h.toNat) :
  iQ [.tup [.str paper,.lst (inks.map dq)],.tup [.int w,.int h],ul states,.int r]=some (.ok (.lst ((List.range w.toNat).map λc=>.str (cF inks paper (nZ states (r*w.toNat+c)))))):=by
 have w0:=sz.w0;have w1:=sz.w1;refine qD (x:=iM (startR [.tup [.str paper,.lst (inks.map dq)],.tup [.int w,.int h],ul states,.int r] 0)) ?_;unfold iM;walk_at "rd"
 refine⟨by omega,by omega,by rw[b8];exact ZaQ (bK (by omega)),?_⟩
 rw[xM,jb (λi=>PV.int ((i:Nat):Int)) (λc=>.str (cF inks paper (nZ states (r*w.toNat+c)))) _ λc hc=>?_]
 ·walk_at "rd"
 ·have hc:=ZaS.mp hc;walk_at "rd"
  refine⟨by decide,?_⟩
  rw[Dz sz (c:=(c:Int)) (r:=(r:Int)) ⟨by omega,by omega,by omega,by omega⟩ states (by omega)]
  walk_at "rd"
  rw[show Mth.pl w.toNat ((c:Int),(r:Int))=r*w.toNat+c from rfl];rw[Al paper inks _ λn hn=>by
   have:=ZaS.mp (Za2.mp hn).1;omega]
  walk_at "rd"
theorem Gd(ps:List (Str×Str)):gV (ps.map prP)=some (ps.map λp=>(PV.str p.1,PV.str p.2)):=by
 induction ps with
 |nil=>rfl
 |cons p ps ih=>
  rw[Zai];unfold gV;rw[ih];rfl
theorem vp:∀ (ps:List (Str×Str)) (l0:List (Key×PV)),l0.length+ps.length<=1000->(ps.map (·.1)).Nodup ->
  ∃ l,fH (.dk l0) (ps.map λp=>(PV.str p.1,PV.str p.2))=some (.dk l)/\∀ c,gU l (.inr c)=((ps.find? λp=>decide (p.1=c)).map λp=>PV.str p.2).or (gU l0 (.inr c))
 |[],l0,_,_=>⟨l0,rfl,λc=>rfl⟩
 |p::ps,l0,hl,hn=>by
  rw[Zai,List.nodup_cons] at hn;rw[ZaP] at hl;have h1:=pP (Sum.inr p.1:Key) (.str p.2) l0;obtain⟨l,e,hv⟩:=vp ps (je l0 (.inr p.1) (.str p.2)) (by omega) hn.2
  refine⟨l,?_,λc=>?_⟩
  ·rw[Zai];unfold fH;rw[show zX (.dk l0) (.str p.1) (.str p.2)=some (.dk (je l0 (.inr p.1) (.str p.2))) from by rw[Sg,Zan (bK (by omega))]]
   exact e
  ·rw[hv,mL,Za3];by_cases hc:p.1=c
   ·subst hc;rw[Zan rfl];have:ps.find? (λq=>decide (q.1=p.1))=none:=by
     rw[List.find?_eq_none];intro q hq hd;exact hn.1 (ZaR.mpr ⟨q,hq,by simpa using hd⟩)
    rw[this];simp
   ·rw[Zap (λz=>hc (Sum.inr.inj z).symm)];simp[hc]
def uT(row:Bool):Str:=if row then Str.ofString "row" else Str.ofString "column"
def ph(row:Bool)(l f t:Int):PV:=.tup [.str (uT row),.int l,.int f,.int t]
structure On(w h:Int)(row:Bool)(l f t:Int):Prop where
 l0:0<=l
 l1:l<if row then h else w
 f0:0<=f
 ft:f<=t
 t1:t<if row then w else h
def sU(row:Bool)(l:Int)(p:Int):Int×Int:=if row then(p,l) else(l,p)
def gB(row:Bool)(l f t:Int):List (Int×Int):=(List.range (t+1-f).toNat).map λ(i:Nat)=>sU row l (f+(i:Int))
theorem Qa(row:Bool):decide (uT row=Str.ofString "row")=row:=by cases row<;>decide +kernel
theorem On.cell{w h:Int}{row:Bool}{l f t:Int}(o:On w h row l f t){c:Int×Int}(hc:c∈gB row l f t):Cell w h c.1 c.2:=by
 obtain⟨i,hi,rfl⟩:=ZaR.mp hc;have hi:=ZaS.mp hi;obtain⟨l0,l1,f0,ft,t1⟩:=o;unfold sU;cases row
 ·exact⟨l0,l1,by show 0<=f+(i:Int);omega,by show f+(i:Int)<h;have t1:t<h:=t1;omega⟩
 ·exact⟨by show 0<=f+(i:Int);omega,by show f+(i:Int)<w;have t1:t<w:=t1;omega,l0,l1⟩
theorem Il(i:Int):iC [.int i]=some (.ok (.bl true)):=by
 refine dY (x:=nG (startR [.int i] 0)) ?_;unfold nG;walk_at "rd"
theorem Ge{row:Bool}{l f t:Int}(h:f<=t):kZ [ph row l f t]=some (.ok (.bl true)):=by
 refine dY (x:=kY (startR [ph row l f t] 0)) ?_;unfold kY ph;walk_at "rd"
 unfold qY;walk_at "rd"
 refine⟨by decide,_,HW (g:=PV.str) (λa b=>eqF_str 31 a b) (uT row) [Str.ofString "row",Str.ofString "column"],?_⟩
 have:decide (uT row∈[Str.ofString "row",Str.ofString "column"])=true:=by cases row<;>decide +kernel
 rw[this];walk_at "rd"
 unfold qX;walk_at "rd"
 rw[show tU [PV.str (uT row),PV.int l,PV.int f,PV.int t] (some 1) none=[l,f,t].map PV.int from rfl];refine⟨by decide,ZaQ (bK (show 3<=1000 by decide)),?_⟩
 rw[jb PV.int (λ_=>.bl true) _ λi _=>?_]
 ·walk_at "rd"
  refine⟨[true,true,true],rfl,?_⟩;rw[Zan (by rfl)]
  exact h
 ·walk_at "rd"
  rw[Il];walk_at "rd"
theorem My(w h:Int)(row:Bool):nM [.tup [.int w,.int h],.str (uT row)]=some (.ok (.int (if row then h else w))):=by
 refine dY (x:=nJ (startR [.tup [.int w,.int h],.str (uT row)] 0)) ?_;unfold nJ;walk_at "rd"
 cases row
 ·rw[Zap (by decide +kernel)];rfl
 ·rw[Zan (by rfl)];rfl
theorem JV(w h:Int)(row:Bool):lq [.tup [.int w,.int h],.str (uT row)]=some (.ok (.int (if row then w else h))):=by
 refine dY (x:=lg (startR [.tup [.int w,.int h],.str (uT row)] 0)) ?_;unfold lg;walk_at "rd"
 cases row
 ·rw[Zap (by decide +kernel)];rfl
 ·rw[Zan (by rfl)];rfl
theorem Qc{w h:Int}{row:Bool}{l f t:Int}(hft:f<=t):qI [.tup [.int w,.int h],ph row l f t]=some (.ok (.bl (decide (0<=l/\(l<if row then h else w)/\0<=f/\t<if row then w else h)))):=by
 refine dY (x:=qH (startR [.tup [.int w,.int h],ph row l f t] 0)) ?_;unfold qH;walk_at "rd"
 rw[Ge hft];walk_at "rd"
 unfold vg ph;walk_at "rd"
 rw[My,JV];walk_at "rd"
 generalize (if row then h else w)=L
 generalize (if row then w else h)=P
 refine jo (λh1=>jo (λh2=>jo (λh3=>?_) λh3=>?_) λh2=>?_) λh1=>?_
 ·rw[decide_eq_decide];exact⟨λh=>⟨h1,h2,h3,h⟩,λh=>h.2.2.2⟩
 ·exact(Zay λh=>h3 h.2.2.1).symm
 ·exact(Zay λh=>h2 h.2.1).symm
 ·exact(Zay λh=>h1 h.1).symm
theorem JW{row:Bool}{l f t:Int}(f0:0<=f)(ft:f<=t)(t1:t<=1000):gZ [ph row l f t]=some (.ok (.lst ((gB row l f t).map cellP))):=by
 refine qD (x:=gY (startR [ph row l f t] 0)) ?_;unfold gY ph;walk_at "rd"
 have key:mF f (t+1-f).toNat=(List.range (t+1-f).toNat).map λi=>PV.int (f+((i:Nat):Int)):=rfl;have len:((List.range (t+1-f).toNat).map λi=>PV.int (f+((i:Nat):Int))).length<=sizeLine:=by
  rw[List.length_map,ZaB];exact ZaC (show _<=1001 by lia) (by decide)
 by_cases hr:row=true
 ·subst hr;rw[Zan (by rfl)]
  unfold mO;walk_at "rd"
  rw[key];refine⟨by lia,by lia,by lia,by lia,len,?_⟩
  rw[jb (λi=>PV.int (f+((i:Nat):Int))) (λi=>cellP (sU true l (f+((i:Nat):Int)))) _ λi _=>?_]
  ·walk_at "rd"
   unfold gB;rw[List.map_map];rfl
  ·walk_at "rd"
   exact⟨by decide,rfl⟩
 ·have hr:row=false:=by simpa using hr
  subst hr;rw[Zap (by decide +kernel)]
  unfold mQ;walk_at "rd"
  rw[key];refine⟨by lia,by lia,by lia,by lia,len,?_⟩
  rw[jb (λi=>PV.int (f+((i:Nat):Int))) (λi=>cellP (sU false l (f+((i:Nat):Int)))) _ λi _=>?_]
  ·walk_at "rd"
   unfold gB;rw[List.map_map];rfl
  ·walk_at "rd"
   exact⟨by decide,rfl⟩
theorem Am{w h:Int}(sz:Sz w h){row:Bool}{l f t:Int}(o:On w h row l f t):lu [.tup [.int w,.int h],ph row l f t]=some (.ok (.int (Mth.vC w.toNat (gB row l f t)))):=by
 have t24:t<=1000:=by
  have q:=o.t1;have:=sz.w1;have:=sz.h1;split at q<;>omega
 refine dY (x:=lr (startR [.tup [.int w,.int h],ph row l f t] 0)) ?_;unfold lr;walk_at "rd"
 rw[JW o.f0 o.ft t24];walk_at "rd"
 rw[JK sz _ λc hc=>o.cell hc];walk_at "rd"
theorem xO(a:Nat):∀ b:Nat,a+b=(a ^^^ b)+2*(a &&& b):=by
 induction a using Nat.strongRecOn with
 |_ a ih=>
  intro b;by_cases h:a=0
  ·subst h;simp
  ·have this:=ih (a/2) (by omega) (b/2)
   have e1:(a ^^^ b)/2=(a/2) ^^^ (b/2):=Nat.xor_div_two;have e2:(a &&& b)/2=(a/2) &&& (b/2):=Nat.and_div_two;have t1:=Nat.testBit_xor a b 0;have t2:=Nat.testBit_and a b 0;rw[<-e1,<-e2] at this;simp only[Nat.testBit_zero] at t1 t2;generalize a ^^^ b=x at *
   generalize a &&& b=y at *
   rcases Nat.mod_two_eq_zero_or_one a with p|p<;>rcases Nat.mod_two_eq_zero_or_one b with q|q<;>rw[p,q] at t1 t2<;>simp at t1 t2<;>omega
def Gf(n m:Nat):Nat:=n ^^^ (n &&& m)
theorem Mz(n m:Nat):Builtin.bitAnd (n:Int) (Builtin.bitNot (m:Int))=((Gf n m:Nat):Int):=by
 have hn:¬(0:Int)<=Builtin.bitNot (m:Int):=by unfold Builtin.bitNot;omega
 have e:Builtin.bitAnd (n:Int) (Builtin.bitNot (m:Int))=(n:Int)-((n &&& m:Nat):Int):=by
  unfold Builtin.bitAnd;rw[ZaK (Zbe n),Zay hn,bitNot_bitNot,Zak,Zak]
 rw[e];have:=xO n (n &&& m);rw[<-Nat.and_assoc,Nat.and_self] at this;unfold Gf;omega
def eQ(w h:Int):Nat:=2^(w.toNat*h.toNat)-1
theorem zf{w h:Int}(sz:Sz w h):tY [.tup [.int w,.int h]]=some (.ok (.int (eQ w h:Nat))):=by
 have hm:=sz.mul;refine dY (x:=tX (startR [.tup [.int w,.int h]] 0)) ?_;unfold tX;walk_at "rd"
 refine⟨.inl ⟨by have:=sz.w0;have:=sz.w1;omega,by have:=sz.w0;have:=sz.w1;omega⟩,by omega,by omega,by decide,?_⟩
 unfold eQ;rw[sz.nat.1];have:0<2^(w*h).toNat:=Nat.pow_pos (by decide)
 rw[Int.one_mul,show((2:Int)^(w*h).toNat)=((2^(w*h).toNat:Nat):Int) by norm_cast]
 congr 1
 omega
inductive Dd where
 |cut (b:Int) (row:Bool) (l f t:Int)
 |prt (b i:Int)
def Dd.p:Dd->PV
 |.cut b row l f t=>.tup [.str (Str.ofString "cut"),.int b,ph row l f t]
 |.prt b i=>.tup [.str (Str.ofString "print"),.int b,.int i]
def Dd.ok(w h:Int):Dd->Prop
 |.cut b row l f t=>0<=b/\On w h row l f t
 |.prt b i=>0<=b/\0<=i
def Dd.block:Dd->Int
 |.cut b ..=>b
 |.prt b _=>b
def Dd.Ss:Dd->Option Int
 |.cut ..=>none
 |.prt _ i=>some i
def eU(l:List Dd):List Int:=l.filterMap Dd.Ss
theorem xP(i:Int):jf [.int i]=some (.ok (.bl (decide (0<=i)))):=by
 refine dY (x:=lw (startR [.int i] 0)) ?_;unfold lw;walk_at "rd"
 rw[Il];walk_at "rd"
theorem Gg{w h:Int}{d:Dd}(o:d.ok w h):qJ [.tup [.int w,.int h],d.p]=some (.ok (.bl true)):=by
 refine dY (x:=mR (startR [.tup [.int w,.int h],d.p] 0)) ?_;cases d with
 |cut b row l f t=>
  obtain⟨b0,o⟩:=o;unfold mR Dd.p;walk_at "rd"
  rw[Zap (by decide)]
  unfold pR;walk_at "rd"
  rw[xP,ZaK b0];walk_at "rd"
  unfold pQ vh;walk_at "rd"
  rw[Qc o.ft];walk_at "rd"
  exact⟨o.l0,o.l1,o.f0,o.t1⟩
 |prt b i=>
  obtain⟨b0,i0⟩:=o;unfold mR Dd.p;walk_at "rd"
  rw[Zap (by decide)]
  unfold pR;walk_at "rd"
  rw[xP,ZaK b0];walk_at "rd"
  unfold pQ vm;walk_at "rd"
  rw[xP,ZaK i0];walk_at "rd"
  rw[Zap (by decide +kernel)]
  trivial
def Uk(w:Int)(W:Int->Nat):Dd->Int->Nat
 |.cut b row l f t,c=>if c=b then Gf (W b) (Mth.vC w.toNat (gB row l f t)) else W c
 |.prt ..,c=>W c
def wd(w:Int):(Int->Nat)->List Dd->Int->Nat
 |W,[]=>W
 |W,d::l=>wd w (Uk w W d) l
def pr(w:Int):(Int->Nat)->List Dd->List (Int×Nat)
 |_,[]=>[]
 |W,.cut b row l f t::r=>pr w (Uk w W (.cut b row l f t)) r
 |W,.prt b i::r=>(i,W b)::pr w W r
def xQ(x:Int×Nat):PV:=.tup [.int x.1,.int (x.2:Nat)]
theorem xR(w:Int):∀ (l m:List Dd) (W:Int->Nat),wd w W (l++m)=wd w (wd w W l) m
 |[],_,_=>rfl
 |d::l,m,W=>xR w l m _
theorem uU(w:Int):∀ (l m:List Dd) (W:Int->Nat),pr w W (l++m)=pr w W l++pr w (wd w W l) m
 |[],_,_=>rfl
 |.cut ..::l,m,W=>uU w l m _
 |.prt b i::l,m,W=>congrArg ((i,W b)::·) (uU w l m W)
theorem iw(w:Int):∀ (l:List Dd) (W:Int->Nat),(pr w W l).map Prod.fst=eU l
 |[],_=>rfl
 |.cut ..::l,W=>iw w l _
 |.prt b i::l,W=>by show i::_=i::_;rw[iw w l W];rfl
theorem xT(x:Int){m:Nat}(h:0<m):∃ k:Nat,x%(m:Int)=(k:Int)/\k<m:=by
 have h0:=Zal x (show(m:Int)≠0 by omega)
 have h1:=Zaj x (show(0:Int)<(m:Int) by omega)
 exact⟨(x%(m:Int)).toNat,by omega,by omega⟩
theorem sV(c t:Int)(t0:0<=t)(t1:t<=10):∃ n:Int,cW [.int c,.int t]=some (.ok (.int n)):=by
 suffices h:∃ p,cW [.int c,.int t]=some (.ok p)/\∃ n:Int,p=.int n by
  obtain⟨p,e,n,rfl⟩:=h;exact⟨n,e⟩
 refine pO (x:=iR (startR [.int c,.int t] 1)) (kW λQS hQ=>?_);unfold iR;rw[show startR [PV.int c,.int t] 1=[some (.sh (.int c)),some (.sh (.int t)),none] from rfl];walk_at "rd"
 refine⟨by decide,by decide,by decide,jo (λh=>?_) λh=>?_⟩
 ·unfold oF;walk_at "rd"
  exact hQ _ ⟨_,rfl,c,rfl⟩
 ·unfold oJ;walk_at "rd"
  refine⟨.inl ⟨by decide,by decide⟩,by omega,by omega,?_⟩
  refine dh (λi ρ=>∃ (z:Int) (v2:Option Sl),ρ=[some (.sh (.int z)),some (.sh (.int t)),v2]) ⟨c,none,rfl⟩ ?_ ?_
  ·rintro i x ρ hx ⟨z,v2,rfl⟩;unfold oG;walk_at "rd"
   exact⟨by decide,by decide,by decide,by decide,by decide +kernel,_,_,rfl⟩
  ·rintro ρ ⟨z,v2,rfl⟩;unfold oH;walk_at "rd"
   exact⟨by decide,by decide,by decide,hQ _ ⟨_,rfl,_,rfl⟩⟩
theorem MF(ps:List (Int×Nat))(i m:Int)(hm:i<m)(h:∀ x∈ps,x.1<i):jL [.lst (ps.map xQ),.int i,.int m]=some (.ok (.bl true)):=by
 refine dY (x:=jK (startR [.lst (ps.map xQ),.int i,.int m] 0)) ?_;unfold jK;walk_at "rd"
 try rw[Zan (show(PV.int m).yO=false from rfl)]
 rw[Zap (by omega)]
 unfold pU;walk_at "rd"
 rcases List.eq_nil_or_concat ps with rfl|⟨qs,x,rfl⟩
 ·rw[Zan (by rfl)];trivial
 ·rw[Zap (by simp;omega),List.concat_eq_append,ZaN]
  show ∃ p,atI (qs.map xQ++[xQ x]) (-1)=some p/\_
  refine⟨xQ x,Ks _ _,?_⟩;unfold xQ;walk_at "rd"
  exact h x (by simp)
structure Good(w h m:Int)(l:List Dd):Prop where
 len:l.length<=1000
 ok:∀ d∈l,d.ok w h
 inks:(eU l).Pairwise (·<·)
 less:∀ i∈eU l,i<m
def RIM(w h m:Int)(L:List PV)(l:List Dd)(i:Nat)(ρ:Rho):Prop:=
 ∃ (kv:List (Key×PV)) (v5 v6 v7:Option Sl),ρ=[some (.sh (.tup [.int w,.int h])),some (.sh (.lst L)),some (.sh (.int m)),some (.ow (.dk kv)),some (.ow (.lst ((pr w (λ_=>eQ w h) (l.take i)).map xQ))),v5,v6,v7]/\kv.length<=i/\∀ b:Int,(gU kv (.inl b)).getD (.int (eQ w h:Nat))=.int (wd w (λ_=>eQ w h) (l.take i) b:Nat)
theorem RIM.zero{w h m:Int}{L:List PV}{l:List Dd}:RIM w h m L l 0 [some (.sh (.tup [.int w,.int h])),some (.sh (.lst L)),some (.sh (.int m)),some (.ow (.dk [])),some (.ow (.lst [])),none,none,none]:=⟨[],none,none,none,rfl,Zag _,λb=>rfl⟩
theorem JX{w h m:Int}(sz:Sz w h){L:List PV}{plan:List Dd}(g:Good w h m plan){QS:Out->Prop}{i:Nat}{d:Dd}{ρ:Rho}(ed:plan[i]?=some d)(hρ:RIM w h m L plan i ρ) :
  To (g8 ((ρ.set 5 (some (.sh (.int i)))).set 6 (some (.sh d.p)))) (turn (RIM w h m L plan (i+1)) QS):=by
 obtain⟨kv,v5,v6,v7,rfl,hk,hv⟩:=hρ;have hl:=g.len;unfold RIM;have il:i<plan.length:=(Zar.mp ed).1;have dk:=g.ok d (ZaI ed);have tk:plan.take (i+1)=plan.take i++[d]:=take_snoc ed;rw[tk];refine pM λQS hQ=>?_;have pl:(pr w (λ_=>eQ w h) (plan.take i)).length<=i:=by
  rw[<-List.length_map (f:=Prod.fst),iw];refine ZaC (Zbh _ _) ?_;rw[Za6];omega
 unfold g8;walk_at "rd"
 rw[Gg dk];walk_at "rd"
 unfold lC;cases d with
 |cut b row l f t=>
  rw[show(Dd.cut b row l f t).p=.tup [.str (Str.ofString "cut"),.int b,ph row l f t] from rfl];walk_at "rd"
  rw[zf sz];walk_at "rd"
  rw[hv b];unfold lz;walk_at "rd"
  rw[Am sz dk.2];walk_at "rd"
  rw[Mz];rw[show pr w (λ_=>eQ w h) (plan.take i++[.cut b row l f t])=pr w (λ_=>eQ w h) (plan.take i) by rw[uU];exact ZaM _] at hQ
  refine⟨_,by rw[Ae,Zan (bK (by omega))],hQ _ ⟨je kv (.inl b) _,_,_,_,rfl,ZaC (pP _ _ kv) (by omega),λc=>?_⟩⟩
  ·rw[mL,xR];show _=PV.int ((if c=b then Gf _ _ else _:Nat):Int)
   by_cases q:c=b
   ·subst q;rw[Zan rfl,Zan rfl];rfl
   ·rw[Zap (by intro z;cases z;exact q rfl),Zap q];exact hv c
 |prt b j=>
  rw[show(Dd.prt b j).p=.tup [.str (Str.ofString "print"),.int b,.int j] from rfl];walk_at "rd"
  rw[zf sz];walk_at "rd"
  rw[Zap (by decide +kernel),hv b]
  unfold lB;walk_at "rd"
  have ji:j∈eU plan:=List.mem_filterMap.mpr ⟨_,ZaI ed,rfl⟩;rw[MF _ _ _ (g.less j ji) ?_]
  ·walk_at "rd"
   unfold lA;walk_at "rd"
   refine⟨rfl,by decide,by rw[List.length_map];exact bK (by omega),hQ _ ⟨kv,some (.sh (.int i)),some (.sh (.tup [.str (Str.ofString "print"),.int b,.int j])),some (.sh (.int (wd w (λ_=>eQ w h) (plan.take i) b:Nat))),?_,by omega,λc=>?_⟩⟩
   ·rw[uU,ZaN];rfl
   ·rw[xR];exact hv c
  ·intro x hx;have hp:(eU (plan.take (i+1))).Pairwise (·<·):=g.inks.sublist (List.Sublist.filterMap _ (List.take_sublist _ _));rw[tk] at hp;unfold eU at hp;rw[List.filterMap_append] at hp;refine(List.pairwise_append.mp hp).2.2 x.1 ?_ j (by simp[Dd.Ss])
   have:=iw w (plan.take i) (λ_=>eQ w h);unfold eU at this;rw[<-this];exact Zbd hx
theorem Qd{w h m:Int}(sz:Sz w h){plan:List Dd}(g:Good w h m plan) :
  gA [.tup [.int w,.int h],.lst (plan.map Dd.p),.int m]=some (.ok (.lst ((pr w (λ_=>eQ w h) plan).map xQ))):=by
 refine qD (x:=gw (startR [.tup [.int w,.int h],.lst (plan.map Dd.p),.int m] 5)) ?_;unfold gw
 walk_at "rd"
 refine pN (RIM w h m (plan.map Dd.p) plan) RIM.zero ?_ ?_
 ·intro i x ρ hx hρ;rw[Zac] at hx;cases ed:plan[i]? with
  |none=>rw[ed] at hx;cases hx
  |some d=>
   rw[ed] at hx;cases hx;exact JX sz g ed hρ
 ·rintro ρ ⟨kv,v5,v6,v7,rfl,hk,hv⟩;rw[List.length_map,List.take_length];unfold lD;walk_at "rd"
theorem JZ{w h:Nat}(f:Nat->Nat->Str)(h0:0<h):qG [DG w h f]=some (.ok (.tup [.int w,.int h])):=by
 refine dY (x:=qF (startR [DG w h f] 0)) ?_;unfold qF DG;walk_at "rd"
 have e0:atI ((List.range h).map λr=>PV.lst ((List.range w).map λc=>.str (f c r))) ((0:Nat):Int)=some (PV.lst ((List.range w).map λc=>.str (f c 0))):=cP (by rw[Zac,ZaJ h0];rfl)
 refine⟨_,e0,?_⟩;walk_at "rd"
 refine⟨by decide,?_⟩
 rw[List.length_map,ZaB,List.length_map,ZaB]
theorem DK{w h:Int}(sz:Sz w h)(paper:Str)(inks:List Ink)(states:List Nat)(hl:states.length<=inks.length)(h8:inks.length<=8) :
  qL [.tup [.str paper,.lst (inks.map dq)],.tup [.int w,.int h],ul states]=some (.ok (DG w.toNat h.toNat λc r=>cF inks paper (nZ states (r*w.toNat+c)))):=by
 have h0:=sz.h0;have h1:=sz.h1;refine Pu (x:=qK (startR [.tup [.str paper,.lst (inks.map dq)],.tup [.int w,.int h],ul states] 0)) ?_;unfold qK;walk_at "rd"
 refine⟨by omega,by omega,by rw[b8];exact ZaQ (bK (by omega)),?_⟩
 rw[xM,jb (λi=>PV.int ((i:Nat):Int)) (λr=>.lst ((List.range w.toNat).map λc=>.str (cF inks paper (nZ states (r*w.toNat+c))))) _ λr hr=>?_]
 ·walk_at "rd"
  rfl
 ·walk_at "rd"
  rw[xN sz paper inks states hl h8 (ZaS.mp hr)];walk_at "rd"
  exact ZaZ.mpr λx hx=>by obtain⟨c,_,rfl⟩:=ZaR.mp hx;rfl
theorem zg:∀ ps:List (Int×Nat),gV (ps.map xQ)=some (ps.map λx=>(PV.int x.1,PV.int (x.2:Nat)))
 |[]=>rfl
 |x::ps=>by
  rw[Zai];unfold gV;rw[zg ps];rfl
theorem MK(a b:Int):∃ v:Int,atI [PV.int 1,.int 24,.int (1+b%24),.int (1+b%6)] (a/24%4)=some (.int v)/\1<=v/\v<=24:=by
 obtain⟨m,em,hm⟩:=xT (a/24) (show 0<4 by decide)
 rw[show a/24%4=(m:Int) from em];rcases(show m=0\/m=1\/m=2\/m=3 by omega) with rfl|rfl|rfl|rfl
 ·exact⟨1,rfl,by decide,by decide⟩
 ·exact⟨24,rfl,by decide,by decide⟩
 ·exact⟨1+b%24,rfl,by omega,by omega⟩
 ·exact⟨1+b%6,rfl,by omega,by omega⟩
theorem Gh(c:Int):∃ w h:Int,jh [.int c]=some (.ok (.tup [.int w,.int h]))/\Sz w h:=by
 suffices g:∃ p,jh [.int c]=some (.ok p)/\∃ w h:Int,p=.tup [.int w,.int h]/\Sz w h by
  obtain⟨p,e,w,h,rfl,o⟩:=g;exact⟨w,h,e,o⟩
 obtain⟨cc,ew⟩:=sV c 1 (by decide) (by decide)
 obtain⟨ns,es,h4,hp⟩:=jQ (cc+5) 4 (by decide) (by decide)
 have h4:ns.length=4:=by omega
 have at1:∀ i:Int,0<=i->i<4->atI (ns.map PV.int) i=some (.int (ns.getD i.toNat 0)):=λi h0 h1=>fP h0 (by omega)
 obtain⟨v,ev,v0,v1⟩:=MK (ns.getD 2 0) (ns.getD 0 0);obtain⟨u,eu,u0,u1⟩:=MK (ns.getD 3 0) (ns.getD 1 0);refine pO (x:=lJ (startR [.int c] 1)) (kW λQS hQ=>?_);unfold lJ;rw[show startR [PV.int c] 1=[some (.sh (.int c)),none] from rfl];walk_at "rd"
 rw[ew];walk_at "rd"
 rw[es];walk_at "rd"
 refine⟨by decide,by decide,by rw[b8];exact ZaQ (bK (by decide)),?_⟩
 rw[show mF 0 2=[(0:Int),1].map PV.int from rfl,jb PV.int (λk=>if k=0 then .int v else .int u) _ λk hk=>?_]
 ·walk_at "rd"
  exact hQ _ ⟨_,rfl,v,u,rfl,v0,v1,u0,u1⟩
 ·simp only[Zao,ZaL,Zbo] at hk;rcases hk with rfl|rfl
  ·walk_at "rd"
   refine⟨_,at1 0 (by decide) (by decide),?_⟩
   walk_at "rd"
   refine⟨by decide,_,at1 0 (by decide) (by decide),?_⟩
   walk_at "rd"
   refine⟨by decide,by decide,_,at1 2 (by decide) (by decide),?_⟩
   walk_at "rd"
   exact⟨by decide,by decide,by decide,_,ev,rfl⟩
  ·walk_at "rd"
   refine⟨_,at1 1 (by decide) (by decide),?_⟩
   walk_at "rd"
   refine⟨by decide,_,at1 1 (by decide) (by decide),?_⟩
   walk_at "rd"
   refine⟨by decide,by decide,_,at1 3 (by decide) (by decide),?_⟩
   walk_at "rd"
   exact⟨by decide,by decide,by decide,_,eu,rfl⟩
theorem An{w h:Int}(sz:Sz w h)(ns:List Int)(h8:5<=ns.length):∃ (row:Bool) (l f t:Int),gk [.tup [.int w,.int h],.lst (ns.map .int)]=some (.ok (ph row l f t))/\On w h row l f t:=by
 suffices g:∃ p,gk [.tup [.int w,.int h],.lst (ns.map .int)]=some (.ok p)/\∃ (row:Bool) (l f t:Int),p=ph row l f t/\On w h row l f t by
  obtain⟨p,e,row,l,f,t,rfl,o⟩:=g;exact⟨row,l,f,t,e,o⟩
 have at1:∀ i:Int,0<=i->i<5->atI (ns.map PV.int) i=some (.int (ns.getD i.toNat 0)):=λi h0 h1=>fP h0 (by omega)
 have w0:=sz.w0;have w1:=sz.w1;have h0:=sz.h0;have h1:=sz.h1;refine pO (x:=iT (startR [.tup [.int w,.int h],.lst (ns.map .int)] 4)) (kW λQS hQ=>?_);unfold iT;rw[show startR [.tup [.int w,.int h],PV.lst (ns.map .int)] 4=[some (.sh (.tup [.int w,.int h])),some (.sh (.lst (ns.map .int))),none,none,none,none] from rfl];walk_at "rd"
 refine⟨_,at1 1 (by decide) (by decide),?_⟩
 walk_at "rd"
 obtain⟨row,q⟩:∃ row:Bool,ns.getD 1 0%2=if row then 0 else 1:=by
  rcases(show ns.getD 1 0%2=0\/ns.getD 1 0%2=1 by omega) with q|q
  ·exact⟨true,q⟩
  ·exact⟨false,q⟩
 obtain⟨L,eL⟩:∃ L:Int,(if row then h else w)=L:=⟨_,rfl⟩;obtain⟨P,eP⟩:∃ P:Int,(if row then w else h)=P:=⟨_,rfl⟩;have L0:1<=L/\L<=24:=by rw[<-eL];split<;>omega
 have P0:1<=P/\P<=24:=by rw[<-eP];split<;>omega
 rw[q,show atI [PV.int w,.int h] (1-if row=true then 0 else 1)=some (.int L) by rw[<-eL];cases row<;>rfl,show atI [PV.int w,.int h] (if row=true then 0 else 1)=some (.int P) by rw[<-eP];cases row<;>rfl]
 refine⟨by decide,_,at1 2 (by decide) (by decide),_,rfl,?_⟩
 walk_at "rd"
 refine⟨by omega,_,at1 3 (by decide) (by decide),?_⟩
 walk_at "rd"
 rw[show atI [PV.str (Str.ofString "row"),.str (Str.ofString "column")] (if row=true then 0 else 1)=some (.str (uT row)) by cases row<;>rfl]
 refine⟨by omega,_,at1 4 (by decide) (by decide),?_⟩
 walk_at "rd"
 have f0:0<=ns.getD 3 0%P:=Zal _ (by omega)
 have f1:ns.getD 3 0%P<P:=Zaj _ (by omega)
 generalize ns.getD 3 0%P=f at f0 f1 ⊢
 have r0:0<=ns.getD 4 0%(P-f):=Zal _ (by omega)
 have r1:ns.getD 4 0%(P-f)<P-f:=Zaj _ (by omega)
 have l0:0<=ns.getD 2 0%L:=Zal _ (by omega)
 have l1:ns.getD 2 0%L<L:=Zaj _ (by omega)
 exact⟨by omega,by decide,by decide,hQ _ ⟨_,rfl,row,_,f,_,rfl,⟨l0,by rw[eL];exact l1,f0,by omega,by rw[eP];omega⟩⟩⟩
theorem Qe(a b:Int):∃ v:Int,atI [PV.int 0,.int 1,.int 2,.int (a%10^18)] (b%4)=some (.int v)/\0<=v/\v<10^19:=by
 obtain⟨m,em,hm⟩:=xT b (show 0<4 by decide)
 rw[show b%4=(m:Int) from em];rcases(show m=0\/m=1\/m=2\/m=3 by omega) with rfl|rfl|rfl|rfl
 ·exact⟨0,rfl,by decide,by decide⟩
 ·exact⟨1,rfl,by decide,by decide⟩
 ·exact⟨2,rfl,by decide,by decide⟩
 ·exact⟨a%10^18,rfl,by omega,by omega⟩
theorem xU{α:Type}{Q:α->Prop}{l:List α}{x:α}(h:∀ d∈l,Q d)(hx:Q x):∀ d∈l++[x],Q d:=λd hd=>by
 rcases ZaU.mp hd with q|q
 ·exact h d q
 ·rw[ZaW.mp q];exact hx
theorem Im{i:Nat}{fe fi fj:Fn PV}{ρ:Rho}{QS:Out->Prop}{l row:List PV}{j n:Nat}{k m:Int}{q:PV}(h:ρ[i]?=some (some (.dp (.lst l))))(he:fe ρ=some (.ok q))(hi:fi ρ=some (.ok (.int k)))(hk:ixN l.length k=some j)(hr:l[j]?=some (.lst row))(hj:fj ρ=some (.ok (.int m)))(hm:ixN row.length m=some n)(st:q.still=true)
  (hs:QS (.nx (ρ.set i (some (.dp (.lst (l.set j (.lst (row.set n q)))))))) ):To (Di i fe fi fj ρ) QS:=by
 have ho:yl i ρ=some (.lst l):=by unfold yl;rw[h]
 have hx:rowAt l (.int k)=some (j,row):=by unfold rowAt;simp only[hk,hr]
 refine⟨.nx (ρ.set i (some (.dp (.lst (l.set j (.lst (row.set n q))))))),?_,trivial,hs⟩;unfold Di yZ;simp only[he,ho,hi,hx,hj,iz,hm];rw[Zan st]
theorem J0{i g:Nat}{fe fi fj:Fn PV}{ρ:Rho}{QS:Out->Prop}{l row:List PV}{j n:Nat}{k m:Int}{q:PV}(h:ρ[i]?=some (some (.dp (.lst l))))(hig:i≠g)(hg:g<ρ.length)(hi:fi ρ=some (.ok (.int k)))(hk:ixN l.length k=some j)(hr:l[j]?=some (.lst row))(he:fe (ρ.set g none)=some (.ok q))(hj:fj (ρ.set g none)=some (.ok (.int m)))(hm:ixN row.length m=some n)(st:q.still=true)
  (hs:QS (.nx ((ρ.set g none).set i (some (.dp (.lst (l.set j (.lst (row.set n q)))))))) ):To (tW i g fi fe fj ρ) QS:=by
 have ho:yl i ρ=some (.lst l):=by unfold yl;rw[h]
 have hx:rowAt l (.int k)=some (j,row):=by unfold rowAt;simp only[hk,hr]
 refine⟨.nx ((ρ.set g none).set i (some (.dp (.lst (l.set j (.lst (row.set n q))))))),?_,trivial,hs⟩;unfold tW yZ;simp only[he,ho,hi,hx,hj,iz,hm];rw[Zan ⟨hig,hg⟩,Zan st]
theorem Gi{w h m:Int}(sz:Sz w h)(m1:1<=m)(m8:m<=8)(ns:List Int)(hn:ns.length<=63):∃ l:List Dd,jj [.lst (ns.map .int),.tup [.int w,.int h],.int m]=some (.ok (.lst (l.map Dd.p)))/\l.length<=63/\Good w h m l:=by
 suffices g:∃ p,jj [.lst (ns.map .int),.tup [.int w,.int h],.int m]=some (.ok p)/\∃ l:List Dd,p=.lst (l.map Dd.p)/\l.length<=63/\Good w h m l by
  obtain⟨p,e,L,rfl,o⟩:=g;exact⟨L,e,o⟩
 obtain⟨cs,ecs,lcs⟩:=Pn ns (some 3) (some 63);refine Ad (x:=lK (startR [.lst (ns.map .int),.tup [.int w,.int h],.int m] 6)) (kW λQS hQ=>?_);unfold lK;walk_at "rd"
 rw[ecs];refine pN (λi ρ=>∃ (L:List Dd) (k:Int) (v5 v6 v7 v8:Option Sl),ρ=[some (.sh (.lst (ns.map .int))),some (.sh (.tup [.int w,.int h])),some (.sh (.int m)),some (.ow (.lst (L.map Dd.p))),some (.sh (.int k)),v5,v6,v7,v8]/\L.length=i/\(∀ d∈L,d.ok w h)/\(eU L).Pairwise (·<·)/\(∀ j∈eU L,j<k)/\0<=k/\k<=m) ⟨[],0,none,none,none,none,rfl,rfl,λ_ h=>by(cases h),List.Pairwise.nil,λ_ h=>by(cases h),by decide,by omega⟩ ?_ ?_
 ·rintro i x ρ hx ⟨L,k,v5,v6,v7,v8,rfl,hl,ho,hp2,hj,k0,k1⟩;refine pM λQS hQ=>?_;rw[Zac] at hx;cases hc:cs[i]? with
  |none=>rw[hc] at hx;cases hx
  |some c=>
   rw[hc] at hx;cases hx;have il:i<cs.length:=(Zar.mp hc).1;obtain⟨cc,ew⟩:=sV c 1 (by decide) (by decide)
   obtain⟨fs,es,h8,hp⟩:=jQ (cc+977+31*(i:Int)) 8 (by decide) (by decide)
   have h8:fs.length=8:=by omega
   have at1:∀ i:Int,0<=i->i<8->atI (fs.map PV.int) i=some (.int (fs.getD i.toNat 0)):=λi h0 h1=>fP h0 (by omega)
   obtain⟨b,eb,b0,b1⟩:=Qe (fs.getD 5 0) (fs.getD 6 0);obtain⟨row,l,f,t,es2,on⟩:=An sz fs (by omega)
   have hlen:(L.map Dd.p).length<sizeLine:=by rw[List.length_map];exact bK (by omega)
   unfold rC;walk_at "rd"
   rw[ew];walk_at "rd"
   refine⟨.inl ⟨by decide,by decide⟩,?_⟩
   rw[es];walk_at "rd"
   refine⟨_,at1 5 (by decide) (by decide),by decide,by decide,by decide,?_⟩
   walk_at "rd"
   refine⟨by decide,by decide,_,at1 6 (by decide) (by decide),?_⟩
   walk_at "rd"
   refine⟨by decide,_,eb,_,at1 0 (by decide) (by decide),?_⟩
   walk_at "rd"
   have cutS:To (lZ [some (Sl.sh (PV.lst (List.map PV.int ns))),some (Sl.sh (PV.tup [PV.int w,PV.int h])),some (Sl.sh (PV.int m)),some (Sl.ow (PV.lst (L.map Dd.p))),some (Sl.sh (PV.int k)),some (Sl.sh (PV.int (i:Int))),some (Sl.sh (PV.int c)),some (Sl.sh (.lst (fs.map .int))),some (Sl.sh (.int b))]) QS:=by
    unfold lZ;walk_at "rd"
    rw[es2];walk_at "rd"
    have ei:eU (L++[.cut b row l f t])=eU L:=by
     unfold eU;rw[List.filterMap_append];exact ZaM _
    exact⟨by decide,hlen,hQ _ ⟨L++[.cut b row l f t],k,_,_,_,_,by rw[ZaN];rfl,by rw[List.length_append,hl];rfl,xU (x:=Dd.cut b row l f t) ho ⟨b0,on⟩,by rw[ei];exact hp2,by rw[ei];exact hj,k0,k1⟩⟩
   refine⟨by decide,jo (λ_=>jo (λkm=>?_) λ_=>cutS) λ_=>cutS⟩
   unfold rB;walk_at "rd"
   refine⟨_,at1 7 (by decide) (by decide),?_⟩
   walk_at "rd"
   refine⟨by decide,_,at1 7 (by decide) (by decide),?_⟩
   walk_at "rd"
   obtain⟨e,ee,e2⟩:=xT (fs.getD 7 0) (show 0<2 by decide)
   rw[show fs.getD 7 0%2=(e:Int) from ee];have r0:0<=fs.getD 7 0/2%(m-k):=Zal _ (by omega)
   have r1:fs.getD 7 0/2%(m-k)<m-k:=Zaj _ (by omega)
   generalize fs.getD 7 0/2%(m-k)=r at r0 r1 ⊢
   have er:(e:Int)*r=0\/(e:Int)*r=r:=by
    rcases(show e=0\/e=1 by omega) with rfl|rfl
    ·left;simp
    ·right;simp
   have ei:eU (L++[.prt b (k+(e:Int)*r)])=eU L++[k+(e:Int)*r]:=by
    unfold eU;rw[List.filterMap_append];rfl
   refine⟨by decide,by decide,by omega,.inl ⟨by omega,by omega⟩,by decide,hlen,hQ _ ⟨L++[.prt b (k+(e:Int)*r)],_,_,_,_,_,by rw[ZaN];rfl,by rw[List.length_append,hl];rfl,xU (x:=Dd.prt b (k+(e:Int)*r)) ho ⟨b0,by omega⟩,?_,?_,by omega,by omega⟩⟩
   ·rw[ei];refine List.pairwise_append.mpr ⟨hp2,List.pairwise_singleton _ _,λx hx y hy=>?_⟩;rw[ZaW.mp hy];have:=hj x hx;omega
   ·rw[ei];intro x hx;rcases ZaU.mp hx with q|q
    ·have:=hj x q;omega
    ·rw[ZaW.mp q];omega
 ·rintro ρ ⟨L,k,v5,v6,v7,v8,rfl,hl,ho,hp2,hj,k0,k1⟩;unfold rD;walk_at "rd"
  have hl:L.length<=63:=by rw[hl,List.length_map];omega
  exact hQ _ ⟨_,rfl,L,rfl,hl,by omega,ho,hp2,λj h=>by have:=hj j h;omega⟩
theorem Qf{n p:Nat}(h:n.testBit p=false):n+2^p=n ||| 2^p:=by
 have e:=xO n (2^p);have h0:n &&& 2^p=0:=Nat.eq_of_testBit_eq λi=>by
  rw[Nat.testBit_and,Nat.testBit_two_pow,Nat.zero_testBit];by_cases q:p=i
  ·subst q;rw[h];rfl
  ·simp[q]
 have h1:n ^^^ 2^p=n ||| 2^p:=Nat.eq_of_testBit_eq λi=>by
  rw[Nat.testBit_xor,Nat.testBit_or,Nat.testBit_two_pow];by_cases q:p=i
  ·subst q;rw[h];simp
  ·simp[q]
 rw[h0,h1] at e;omega
theorem Gj{a w b:Int}(a0:0<=a)(w0:0<=w)(b0:0<=b):a*w+b=((a.toNat*w.toNat+b.toNat:Nat):Int):=by
 rw[Int.natCast_add,Int.natCast_mul,ZaA a0,ZaA w0,ZaA b0]
theorem uV{a w:Int}(a0:0<=a)(a1:a<=1000)(w0:0<=w)(w1:w<=24):0<=a*w/\a*w<=24000:=⟨Int.mul_nonneg a0 w0,Int.le_trans (Int.mul_le_mul a1 w1 w0 (by decide)) (by decide)⟩
theorem Qg{w h:Int}(sz:Sz w h){row:Bool}{l f t:Int}(o:On w h row l f t):lM [.tup [.int w,.int h],ph row l f t]=some (.ok (.int (Mth.vC w.toNat (gB row l f t):Nat))):=by
 refine dY (x:=lL (startR [.tup [.int w,.int h],ph row l f t] 6)) (kW λQS hQ=>?_);have w0:=sz.w0;have w1:=sz.w1;have h0:=sz.h0;have h1:=sz.h1;obtain⟨l0,l1,f0,ft,t1⟩:=id o;have t24:t<=1000:=by split at t1<;>omega
 have l24:l<=1000:=by split at l1<;>omega
 have gc:∀ i:Nat,i<(t+1-f).toNat->(gB row l f t)[i]?=some (sU row l (f+(i:Int))):=λi hi=>by
  unfold gB;rw[Zac,ZaJ hi];rfl
 unfold lL;rw[show ph row l f t=.tup [.str (uT row),.int l,.int f,.int t] from rfl];walk_at "rd"
 refine⟨by omega,by omega,by omega,by omega,?_⟩
 refine dh (λi ρ=>∃ v7:Option Sl,ρ=[some (Sl.sh (PV.tup [PV.int w,PV.int h])),some (Sl.sh (PV.tup [PV.str (uT row),PV.int l,PV.int f,PV.int t])),some (Sl.sh (PV.str (uT row))),some (Sl.sh (PV.int l)),some (Sl.sh (PV.int f)),some (Sl.sh (PV.int t)),some (Sl.sh (PV.int (Mth.vC w.toNat ((gB row l f t).take i):Nat))),v7]) ⟨none,rfl⟩ ?_ ?_
 ·rintro i x ρ hx ⟨v7,rfl⟩;obtain⟨hi,rfl⟩:=iZ hx;have tk:=take_snoc (gc i hi);have nb:(Mth.vC w.toNat ((gB row l f t).take i)).testBit (Mth.pl w.toNat (sU row l (f+(i:Int))))=false:=by
   rw[Mth.N8];refine Zay ?_;rintro⟨c,hc,e⟩;obtain⟨j,hj⟩:=List.mem_iff_getElem?.mp hc;rw[List.getElem?_take] at hj;split at hj
   case isFalse=>cases hj
   rename_i ji;rw[gc j (by omega)] at hj
   cases hj;unfold Mth.pl sU at e;cases row
   ·simp only[Bool.false_eq_true,ZaT] at e;have e:(f+(j:Int)).toNat*w.toNat=(f+(i:Int)).toNat*w.toNat:=by omega
    have:=Nat.eq_of_mul_eq_mul_right (show 0<w.toNat by omega) e
    omega
   ·simp only[Za7] at e;omega
  rw[tk,Mth.yH,<-Qf nb];refine pM λQS hQ=>?_;unfold rG;walk_at "rd"
  refine jo (λq=>?_) λq=>?_
  ·have hr:row=true:=by rw[<-Qa row];exact ZaK q
   subst hr;unfold rE;walk_at "rd"
   have ms:=uV l0 l24 (show 0<=w by omega) w1
   refine⟨.inl ⟨by omega,by omega⟩,by omega,by omega,by decide,hQ _ ⟨some (Sl.sh (PV.int (f+(i:Int)))),?_⟩⟩
   rw[Gj l0 (by omega) (show 0<=f+(i:Int) by omega),Zak,Int.one_mul,Int.natCast_add,Int.natCast_pow]
   rfl
  ·have hr:row=false:=by
    cases row
    ·rfl
    ·exact absurd rfl q
   subst hr;unfold rF;walk_at "rd"
   have ms:=uV (show 0<=f+(i:Int) by omega) (by omega) (show 0<=w by omega) w1
   refine⟨.inl ⟨by omega,by omega⟩,by omega,by omega,by decide,hQ _ ⟨some (Sl.sh (PV.int (f+(i:Int)))),?_⟩⟩
   rw[Gj (show 0<=f+(i:Int) by omega) (by omega) l0,Zak,Int.one_mul,Int.natCast_add,Int.natCast_pow]
   rfl
 ·rintro ρ ⟨v7,rfl⟩;unfold rH;walk_at "rd"
  exact hQ _ (by rw[b8,Zbk (by unfold gB;simp)];rfl)
def prD(ps:List (Int×Nat)):PV:=.dk (ps.map λx=>((.inl x.1:Key),PV.int (x.2:Nat)))
theorem Gk(a b:Nat):Builtin.bitAnd (a:Int) (b:Int)=((a &&& b:Nat):Int):=by
 unfold Builtin.bitAnd;rw[ZaK (Zbe a),ZaK (Zbe b),Zak,Zak]
theorem MN(n m:Nat):(n:Int)-((n &&& m:Nat):Int)=((Gf n m:Nat):Int):=by
 have:=xO n (n &&& m);rw[<-Nat.and_assoc,Nat.and_self] at this;unfold Gf;omega
theorem Io{ps:List (Int×Nat)}{j:Int}{n:Nat}(h:∀ x∈ps,x.1<j):je (ps.map λx=>((.inl x.1:Key),PV.int (x.2:Nat))) (.inl j) (.int (n:Nat))=(ps++[(j,n)]).map λx=>((.inl x.1:Key),PV.int (x.2:Nat)):=by
 induction ps with
 |nil=>rfl
 |cons x ps ih=>
  have hx:=h x List.mem_cons_self;rw[Zai];unfold je;rw[Zap (by intro z;have:=Sum.inl.inj z;omega),ih λy hy=>h y (List.mem_cons_of_mem _ hy)]
  rfl
def Su(w h:Int)(plan:List Dd)(i:Nat)(ρ:Rho):Prop:=
 ∃ (kv:List (Key×PV)) (v4 v5 v6 v7:Option Sl),ρ=[some (.sh (.tup [.int w,.int h])),some (.sh (.lst (plan.map Dd.p))),some (.ow (.dk kv)),some (.ow (prD (pr w (λ_=>eQ w h) (plan.take i)))),v4,v5,v6,v7]/\kv.length<=i/\∀ b:Int,(gU kv (.inl b)).getD (.int (eQ w h:Nat))=.int (wd w (λ_=>eQ w h) (plan.take i) b:Nat)
theorem DN{w h:Int}(sz:Sz w h):1*2^(w*h).toNat-1=((eQ w h:Nat):Int):=by
 unfold eQ;rw[sz.nat.1];have:0<2^(w*h).toNat:=Nat.pow_pos (by decide)
 rw[Int.one_mul,show((2:Int)^(w*h).toNat)=((2^(w*h).toNat:Nat):Int) by norm_cast]
 omega
theorem Gm{w h m:Int}(sz:Sz w h){plan:List Dd}(g:Good w h m plan)(hl:plan.length<=900):iV [.tup [.int w,.int h],.lst (plan.map Dd.p)]=some (.ok (prD (pr w (λ_=>eQ w h) plan))):=by
 refine qD (x:=iU (startR [.tup [.int w,.int h],.lst (plan.map Dd.p)] 6)) (kW λQS hQ=>?_);have hm:=sz.mul;have w0:=sz.w0;have w1:=sz.w1;unfold iU;rw[show startR [PV.tup [.int w,.int h],.lst (plan.map Dd.p)] 6=[some (.sh (.tup [.int w,.int h])),some (.sh (.lst (plan.map Dd.p))),none,none,none,none,none,none] from rfl];walk_at "rd"
 refine vU (Su w h plan) ⟨[],none,none,none,none,rfl,Zag _,λb=>rfl⟩ ?_ ?_
 ·rintro i x ρ hx hρ;rw[Zac] at hx;cases ed:plan[i]? with
  |none=>rw[ed] at hx;cases hx
  |some d=>
   rw[ed] at hx;cases hx;obtain⟨kv,v4,v5,v6,v7,rfl,hk,hv⟩:=hρ;have il:i<plan.length:=(Zar.mp ed).1;have dk:=g.ok d (ZaI ed);have tk:plan.take (i+1)=plan.take i++[d]:=take_snoc ed;cases d with
   |cut b row l f t=>
    refine⟨_,rfl,?_⟩;unfold Su;rw[tk,show pr w (λ_=>eQ w h) (plan.take i++[.cut b row l f t])=pr w (λ_=>eQ w h) (plan.take i) by rw[uU];exact ZaM _]
    refine pM λQS hQ=>?_;unfold jw;walk_at "rd"
    refine⟨.inl ⟨by omega,by omega⟩,by omega,by omega,by decide,?_⟩
    rw[DN sz,hv b];unfold oV;walk_at "rd"
    rw[Qg sz dk.2];walk_at "rd"
    rw[Gk,MN];refine⟨_,by rw[Ae,Zan (bK (by omega))],hQ _ ⟨je kv (.inl b) _,_,_,_,_,rfl,ZaC (pP _ _ kv) (by omega),λc=>?_⟩⟩
    rw[mL,xR];show _=PV.int ((if c=b then Gf _ _ else _:Nat):Int)
    by_cases q:c=b
    ·subst q;rw[Zan rfl,Zan rfl];rfl
    ·rw[Zap (by intro z;cases z;exact q rfl),Zap q];exact hv c
   |prt b j=>
    refine⟨_,rfl,?_⟩;unfold Su;rw[tk,show pr w (λ_=>eQ w h) (plan.take i++[.prt b j])=pr w (λ_=>eQ w h) (plan.take i)++[(j,wd w (λ_=>eQ w h) (plan.take i) b)] by rw[uU];rfl]
    refine pM λQS hQ=>?_;unfold jw;walk_at "rd"
    refine⟨.inl ⟨by omega,by omega⟩,by omega,by omega,by decide,?_⟩
    rw[Zap (by decide +kernel),DN sz,hv b]
    unfold oW;have pl:(pr w (λ_=>eQ w h) (plan.take i)).length<=i:=by
     rw[<-List.length_map (f:=Prod.fst),iw];refine ZaC (Zbh _ _) ?_;rw[Za6];omega
    have lt:∀ x∈pr w (λ_=>eQ w h) (plan.take i),x.1<j:=by
     intro x hx;have hp:(eU (plan.take (i+1))).Pairwise (·<·):=g.inks.sublist (List.Sublist.filterMap _ (List.take_sublist _ _));rw[tk] at hp;unfold eU at hp;rw[List.filterMap_append] at hp;refine(List.pairwise_append.mp hp).2.2 x.1 ?_ j (by simp[Dd.Ss])
     have:=iw w (plan.take i) (λ_=>eQ w h);unfold eU at this;rw[<-this];exact Zbd hx
    have ep:=Io (n:=wd w (λ_=>eQ w h) (plan.take i) b) lt;rw[show prD (pr w (λ_=>eQ w h) (plan.take i))=.dk ((pr w (λ_=>eQ w h) (plan.take i)).map λx=>((.inl x.1:Key),PV.int (x.2:Nat))) from rfl];walk_at "rd"
    refine⟨_,by rw[Ae,Zan (by rw[List.length_map];exact bK (by omega)),ep];rfl,hQ _ ⟨kv,_,_,_,_,rfl,by omega,λc=>?_⟩⟩
    rw[xR];exact hv c
 ·rintro ρ ⟨kv,v4,v5,v6,v7,rfl,hk,hv⟩;rw[List.length_map,List.take_length];unfold oX;walk_at "rd"
  exact hQ _ rfl
theorem Gn{paper:Str}{inks:List Ink}{cols:List Str}(ho:∀ k∈inks,qe cols k)(st:List Nat)(hs:∀ n∈st,n<inks.length):iY [.tup [.str paper,.lst (inks.map dq)],.tup (st.map λ(n:Nat)=>PV.int (n:Int))]=some (.ok (.str (cF inks paper st))):=by
 refine dY (x:=iW (startR [.tup [.str paper,.lst (inks.map dq)],.tup (st.map λ(n:Nat)=>PV.int (n:Int))] 3)) (kW λQS hQ=>?_);unfold iW;walk_at "rd"
 refine dh (λi ρ=>∃ v3 v4,ρ=[some (.sh (.tup [.str paper,.lst (inks.map dq)])),some (.sh (.tup (st.map λ(n:Nat)=>PV.int (n:Int)))),some (.sh (.str (cF inks paper (st.take i)))),v3,v4]) ⟨none,none,rfl⟩ ?_ ?_
 ·rintro i x ρ hx ⟨v3,v4,rfl⟩;rw[Zac] at hx;cases hn:st[i]? with
  |none=>rw[hn] at hx;cases hx
  |some n=>
   rw[hn] at hx;cases hx;have hl:=hs n (ZaI hn);have e1:atI (inks.map dq) (n:Int)=some (dq (inks.getD n zc)):=by
    refine cP ?_;rw[Zac,Zab hl,ZaG,Zab hl];rfl
   have hk:qe cols (inks.getD n zc):=ho _ (by
    rw[ZaG,Zab hl];exact List.getElem_mem _)
   have ec:cF inks paper (st.take (i+1))=Ak (inks.getD n zc) (cF inks paper (st.take i)):=by
    rw[List.take_succ,hn];unfold cF;rw[List.foldl_append];rfl
   rw[ec];refine pM λQS hQ=>?_;generalize cF inks paper (st.take i)=c at hQ ⊢
   unfold o7;walk_at "rd"
   refine⟨_,e1,?_⟩;generalize inks.getD n zc=k at hk hQ ⊢
   cases k with
   |cov a d=>
    unfold dq;walk_at "rd"
    unfold oY;walk_at "rd"
    exact hQ _ ⟨_,_,rfl⟩
   |glz a ps=>
    unfold dq;walk_at "rd"
    rw[Zap (by decide)]
    unfold oZ;walk_at "rd"
    have:=hk.2.1;obtain⟨l,e,hv⟩:=vp ps [] (by simp only[List.length_nil];omega) hk.2.2.2
    refine⟨_,Gd ps,_,e,?_⟩;walk_at "rd"
    rw[hv];have el:((((ps.find? λp=>decide (p.1=c)).map λp=>PV.str p.2).or (gU ([]:List (Key×PV)) (.inr c))).getD (.str c))=.str (Ak (.glz a ps) c):=by
     show _=PV.str (lkp ps c)
     unfold lkp;cases ps.find? (λp=>decide (p.1=c))<;>rfl
    rw[el];exact hQ _ ⟨_,_,rfl⟩
 ·rintro ρ ⟨v3,v4,rfl⟩;rw[List.length_map,List.take_length];unfold o8;walk_at "rd"
  exact hQ _ rfl
def um(ps:List (Int×Nat))(p:Nat):List Nat:=(ps.filter λx=>x.2.testBit p).map λx=>x.1.toNat
theorem qg(ns:List Nat):ju (ns.map λ(n:Nat)=>PV.int (n:Int))=some (ns.map λ(n:Nat)=>(.inl (n:Int):Key)):=by
 induction ns with
 |nil=>rfl
 |cons n ns ih=>rw[Zai];unfold ju;rw[ih];rfl
theorem vq:∀ {a b:List Nat},(a.map λ(n:Nat)=>(.inl (n:Int):Key))=(b.map λ(n:Nat)=>(.inl (n:Int):Key))->a=b
 |[],[],_=>rfl
 |[],_::_,h=>by cases h
 |_::_,[],h=>by cases h
 |x::a,y::b,h=>by
  rw[Zai,Zai] at h;have h1:=(List.cons.inj h).1;have h2:=vq (List.cons.inj h).2;have:=Sum.inl.inj h1;rw[h2,show x=y by omega]
def Kn(inks:List Ink)(paper:Str)(t:List (List Key×PV)):Prop:=∀ (st:List Nat) q,gU t (st.map λ(n:Nat)=>(.inl (n:Int):Key))=some q->q=.str (cF inks paper st)
theorem Qh{ps:List (Int×Nat)}(nd:(ps.map Prod.fst).Pairwise (·<·)){x:Int×Nat}(hx:x∈ps):gU (ps.map λx=>((.inl x.1:Key),PV.int (x.2:Nat))) (.inl x.1)=some (.int (x.2:Nat)):=by
 induction ps with
 |nil=>cases hx
 |cons y ps ih=>
  rw[Zai,List.pairwise_cons] at nd;rw[Zai];unfold gU;rcases Zao.mp hx with rfl|q
  ·rw[Zan rfl]
  ·have:=nd.1 x.1 (Zbd q);rw[Zap (by intro z;have:=Sum.inl.inj z;omega)]
   exact ih nd.2 q
theorem M3{w h:Int}(sz:Sz w h){paper:Str}{inks:List Ink}{cols:List Str}(ho:∀ k∈inks,qe cols k){ps:List (Int×Nat)}(hp:∀ x∈ps,0<=x.1/\x.1<inks.length)(hl:ps.length<=900)(nd:(ps.map Prod.fst).Pairwise (·<·))
  {t:List (List Key×PV)}(kn:Kn inks paper t)(tl:t.length<=900){P L:List PV}(ll:L.length<=900){r c:Nat}(hr:r<h.toNat)(hc:c<w.toNat){v8 v9:Option Sl} :
  To (iH [some (.sh (.tup [.str paper,.lst (inks.map dq)])),some (.sh (.tup [.int w,.int h])),some (.sh (prD ps)),some (.ow (.dt t)),some (.ow (.lst P)),some (.sh (.int r)),some (.ow (.lst L)),some (.sh (.int c)),v8,v9]) λo=>∃ (t':List (List Key×PV)) (v8 v9:Option Sl),o=.nx [some (.sh (.tup [.str paper,.lst (inks.map dq)])),some (.sh (.tup [.int w,.int h])),some (.sh (prD ps)),some (.ow (.dt t')),some (.ow (.lst P)),some (.sh (.int r)),some (.ow (.lst (L++[.str (cF inks paper (um ps (r*w.toNat+c)))]))),some (.sh (.int c)),v8,v9]/\Kn inks paper t'/\t'.length<=t.length+1:=by
 have w0:=sz.w0;have w1:=sz.w1;have h0:=sz.h0;have h1:=sz.h1;refine kW λQS hQ=>?_;have ms:=uV (show 0<=(r:Int) by omega) (by omega) (show 0<=w by omega) w1
 have epl:(r:Int)*w+(c:Int)=((r*w.toNat+c:Nat):Int):=by
  have:=Gj (a:=(r:Int)) (w:=w) (b:=(c:Int)) (by omega) (by omega) (by omega)
  rw[Zak,Zak] at this;exact this
 unfold iH;walk_at "rd"
 refine⟨.inl ⟨by omega,by omega⟩,?_⟩
 rw[epl];generalize r*w.toNat+c=p at epl hQ ⊢
 rw[show prD ps=.dk (ps.map λx=>((.inl x.1:Key),PV.int (x.2:Nat))) from rfl];walk_at "rd"
 rw[show xn (ps.map λx=>((.inl x.1:Key),PV.int (x.2:Nat)))=ps.map λx=>PV.int x.1 by unfold xn;rw[List.map_map];rfl]
 refine⟨by rw[List.length_map];exact ZaQ (bK (by omega)),?_⟩
 rw[Ik (λx:Int×Nat=>PV.int x.1) (λx=>PV.int x.1) (λx=>x.2.testBit p) ps (λx hx=>?_) λx hx _=>?_]
 ·have ef:(ps.filter λx=>x.2.testBit p).map (λx=>PV.int x.1)=(um ps p).map λ(n:Nat)=>PV.int (n:Int):=by
   unfold um;rw[List.map_map];refine List.map_congr_left λx hx=>?_;have:=(hp x (Za2.mp hx).1).1;show PV.int x.1=PV.int ((x.1.toNat:Nat):Int)
   rw[ZaA this]
  have sl:∀ n∈um ps p,n<inks.length:=λn hn=>by
   obtain⟨x,hx,rfl⟩:=ZaR.mp hn;have:=hp x (Za2.mp hx).1;omega
  walk_at "rd"
  rw[ef,qg];generalize um ps p=st at sl hQ ⊢
  rw[show PV.dk (ps.map λx=>((.inl x.1:Key),PV.int (x.2:Nat)))=prD ps from rfl];have fin2:∀ t':List (List Key×PV),Kn inks paper t'->t'.length<=t.length+1->gU t' (st.map λ(n:Nat)=>(.inl (n:Int):Key))=some (.str (cF inks paper st))->To (iG [some (.sh (.tup [.str paper,.lst (inks.map dq)])),some (.sh (.tup [.int w,.int h])),some (.sh (prD ps)),some (.ow (.dt t')),some (.ow (.lst P)),some (.sh (.int r)),some (.ow (.lst L)),some (.sh (.int c)),some (.sh (.int p)),some (.sh (.tup (st.map λ(n:Nat)=>PV.int (n:Int))))]) QS:=λt' kn' tl' e=>by
   unfold iG;walk_at "rd"
   rw[qg,Zbl,e];exact⟨_,rfl,bK (by omega),hQ _ ⟨t',_,_,rfl,kn',tl'⟩⟩
  cases e:gU t (st.map λ(n:Nat)=>(.inl (n:Int):Key)) with
  |some q=>
   refine⟨_,rfl,?_⟩;rw[e,Zap (by simp)]
   have:=kn st q e;subst this;exact fin2 t kn (by omega) e
  |none=>
   refine⟨_,rfl,?_⟩;rw[e,Zan (by rfl)]
   unfold m6;walk_at "rd"
   rw[Gn ho st sl];walk_at "rd"
   refine⟨_,show zX (.dt t) (.tup (st.map λ(n:Nat)=>PV.int (n:Int))) (.str (cF inks paper st))=some (.dt (je t (st.map λ(n:Nat)=>(.inl (n:Int):Key)) (.str (cF inks paper st)))) from ?_,fin2 _ (λst' q e'=>?_) (pP _ _ t) (by rw[mL,Zan rfl])⟩
   ·show(match ju (st.map λ(n:Nat)=>PV.int (n:Int)) with
     |some ks=>_
     |none=>none)=_
    rw[qg];exact Zan (bK (by omega))
   ·rw[mL] at e';split at e'
    ·rename_i z;cases e';rw[vq z]
    ·exact kn st' q e'
 ·have hv:=Qh nd hx;walk_at "rd"
  refine⟨_,hv,?_⟩;walk_at "rd"
  rw[Ii];exact⟨by omega,by rw[Zak]⟩
 ·walk_at "rd"
theorem DP{w h:Int}(sz:Sz w h){paper:Str}{inks:List Ink}{cols:List Str}(ho:∀ k∈inks,qe cols k)(ps:List (Int×Nat))(hp:∀ x∈ps,0<=x.1/\x.1<inks.length)(hl:ps.length<=900)(nd:(ps.map Prod.fst).Pairwise (·<·)) :
  iu [.tup [.str paper,.lst (inks.map dq)],.tup [.int w,.int h],prD ps]=some (.ok (DG w.toNat h.toNat λc r=>cF inks paper (um ps (r*w.toNat+c)))):=by
 have w0:=sz.w0;have w1:=sz.w1;have h0:=sz.h0;have h1:=sz.h1;refine qD (x:=ir (startR [.tup [.str paper,.lst (inks.map dq)],.tup [.int w,.int h],prD ps] 7)) (kW λQS hQ=>?_);unfold ir;rw[show startR [PV.tup [.str paper,.lst (inks.map dq)],.tup [.int w,.int h],prD ps] 7=[some (.sh (.tup [.str paper,.lst (inks.map dq)])),some (.sh (.tup [.int w,.int h])),some (.sh (prD ps)),none,none,none,none,none,none,none] from rfl];walk_at "rd"
 refine⟨by omega,by omega,?_⟩
 let pc:=λc r=>cF inks paper (um ps (r*w.toNat+c))
 refine dh (λi ρ=>∃ (t:List (List Key×PV)) (v5 v6 v7 v8 v9:Option Sl),ρ=[some (.sh (.tup [.str paper,.lst (inks.map dq)])),some (.sh (.tup [.int w,.int h])),some (.sh (prD ps)),some (.ow (.dt t)),some (.ow (.lst ((List.range i).map λr=>.lst ((List.range w.toNat).map λc=>.str (pc c r))))),v5,v6,v7,v8,v9]/\Kn inks paper t/\t.length<=i*w.toNat) ⟨[],_,_,_,_,_,rfl,λ_ _ h=>by(cases h),Zbg _⟩ ?_ ?_
 ·rintro r x ρ hx ⟨t,v5,v6,v7,v8,v9,rfl,kn,tl⟩;obtain⟨hr,rfl⟩:=iZ hx;rw[Zbf];refine pM λQS hQ=>?_;unfold m9;walk_at "rd"
  refine⟨by omega,by omega,?_⟩
  have tb:r*w.toNat<=552:=ZaC (Nat.mul_le_mul (show r<=23 by omega) (show w.toNat<=24 by omega)) (by decide)
  refine dh (λi ρ=>∃ (t:List (List Key×PV)) (v7 v8 v9:Option Sl),ρ=[some (.sh (.tup [.str paper,.lst (inks.map dq)])),some (.sh (.tup [.int w,.int h])),some (.sh (prD ps)),some (.ow (.dt t)),some (.ow (.lst ((List.range r).map λr=>.lst ((List.range w.toNat).map λc=>.str (pc c r))))),some (.sh (.int r)),some (.ow (.lst ((List.range i).map λc=>.str (pc c r)))),v7,v8,v9]/\Kn inks paper t/\t.length<=r*w.toNat+i) ⟨t,_,_,_,rfl,kn,tl⟩ ?_ ?_
  ·rintro c x ρ hx ⟨t,v7,v8,v9,rfl,kn,tl⟩;obtain⟨hc,rfl⟩:=iZ hx;rw[Zbf];refine pM λQS hQ=>?_;obtain⟨o,e,cc,t',v8',v9',rfl,kn',tl'⟩:=M3 sz ho hp hl nd kn (by omega) (P:=(List.range r).map λr=>.lst ((List.range w.toNat).map λc=>.str (pc c r))) (L:=(List.range c).map λc=>.str (pc c r)) (by rw[List.length_map,ZaB];omega) hr hc (v8:=v8) (v9:=v9)
   rw[show(List.range (c+1)).map (λc=>PV.str (pc c r))=(List.range c).map (λc=>PV.str (pc c r))++[PV.str (cF inks paper (um ps (r*w.toNat+c)))] by rw[List.range_succ,ZaN];rfl] at hQ
   exact⟨_,e,cc,hQ _ ⟨t',_,_,_,rfl,kn',by omega⟩⟩
  ·rintro ρ ⟨t,v7,v8,v9,rfl,kn,tl⟩;rw[b8] at tl ⊢;unfold m7;rw[onNx_nx,to_frz,show Cm 6 [some (Sl.sh (PV.tup [PV.str paper,PV.lst (inks.map dq)])),some (.sh (.tup [.int w,.int h])),some (.sh (prD ps)),some (.ow (.dt t)),some (.ow (.lst ((List.range r).map λr=>.lst ((List.range w.toNat).map λc=>.str (pc c r))))),some (.sh (.int r)),some (.ow (.lst ((List.range w.toNat).map λc=>.str (pc c r)))),v7,v8,v9]=[some (Sl.sh (PV.tup [PV.str paper,PV.lst (inks.map dq)])),some (.sh (.tup [.int w,.int h])),some (.sh (prD ps)),some (.ow (.dt t)),some (.ow (.lst ((List.range r).map λr=>.lst ((List.range w.toNat).map λc=>.str (pc c r))))),some (.sh (.int r)),some (.sh (.lst ((List.range w.toNat).map λc=>.str (pc c r)))),v7,v8,v9] from rfl];walk_at "rd"
   rw[show(List.range (r+1)).map (λr=>PV.lst ((List.range w.toNat).map λc=>.str (pc c r)))=(List.range r).map (λr=>PV.lst ((List.range w.toNat).map λc=>.str (pc c r)))++[PV.lst ((List.range w.toNat).map λc=>.str (pc c r))] by rw[List.range_succ,ZaN];rfl,Nat.succ_mul] at hQ
   exact⟨by rw[List.length_map,ZaB];exact bK (by omega),hQ _ ⟨t,_,_,_,_,_,rfl,kn,tl⟩⟩
 ·rintro ρ ⟨t,v5,v6,v7,v8,v9,rfl,kn,tl⟩;rw[b8];unfold ni;walk_at "rd"
  exact hQ _ rfl
theorem DQ:∀ {l m:List Nat},l.Pairwise (·<·)->m.Pairwise (·<·)->(∀ x,x∈l↔x∈m)->l=m
 |[],[],_,_,_=>rfl
 |[],y::m,_,_,h=>absurd ((h y).mpr List.mem_cons_self) (by simp)
 |x::l,[],_,_,h=>absurd ((h x).mp List.mem_cons_self) (by simp)
 |x::l,y::m,p,q,h=>by
  rw[List.pairwise_cons] at p q;have e:x=y:=by
   rcases Zao.mp ((h x).mp List.mem_cons_self) with a|a
   ·exact a
   ·rcases Zao.mp ((h y).mpr List.mem_cons_self) with b|b
    ·exact b.symm
    ·have:=q.1 x a;have:=p.1 y b;omega
  subst e;rw[DQ p.2 q.2 λz=>⟨λhz=>?_,λhz=>?_⟩]
  ·rcases Zao.mp ((h z).mp (List.mem_cons_of_mem _ hz)) with a|a
   ·have:=p.1 z hz;omega
   ·exact a
  ·rcases Zao.mp ((h z).mpr (List.mem_cons_of_mem _ hz)) with a|a
   ·have:=q.1 z hz;omega
   ·exact a
def vI(ps:List (Int×Nat))(k:Nat):Nat:=match ps.find? (λx=>decide (x.1=(k:Int))) with
 |some x=>x.2
 |none=>0
theorem Ip:∀ (ps acc:List (Int×Nat)),((acc++ps).map Prod.fst).Pairwise (·<·)->acc.length+ps.length<=900->fH (prD acc) (ps.map λx=>(PV.int x.1,PV.int (x.2:Nat)))=some (prD (acc++ps))
 |[],acc,_,_=>by rw[ZaM];rfl
 |x::ps,acc,nd,hl=>by
  rw[ZaP] at hl;have lt:∀ y∈acc,y.1<x.1:=λy hy=>by
   rw[ZaN] at nd;exact(List.pairwise_append.mp nd).2.2 y.1 (Zbd hy) x.1 (by simp)
  rw[Zai];unfold fH;rw[show zX (prD acc) (.int x.1) (.int (x.2:Nat))=some (prD (acc++[x])) from by
   unfold prD;rw[Ae,Zan (by rw[List.length_map];exact bK (by omega)),Io lt]]
  have:=Ip ps (acc++[x]) (by rw[List.append_assoc];exact nd) (by rw[List.length_append];show _+1+_<=_;omega)
  rw[List.append_assoc] at this;exact this
theorem Qi{ps:List (Int×Nat)}(k:Nat):(gU (ps.map λx=>((.inl x.1:Key),PV.int (x.2:Nat))) (.inl (k:Int))).getD (.int 0)=.int (vI ps k:Nat):=by
 unfold vI;induction ps with
 |nil=>rfl
 |cons x ps ih=>
  rw[Zai,Za3];unfold gU;by_cases h:x.1=(k:Int)
  ·rw[Zan (congrArg Sum.inl h),ZaK h];rfl
  ·rw[Zap (λz=>h (Sum.inl.inj z)),Zay h];exact ih
theorem M4(m:Nat)(hm:m<=8)(ps:List (Int×Nat))(nd:(ps.map Prod.fst).Pairwise (·<·))(hl:ps.length<=900):fU [.int m,.lst (ps.map xQ)]=some (.ok (ul ((List.range m).map (vI ps)))):=by
 refine qD (x:=fQ (startR [.int m,.lst (ps.map xQ)] 1)) (kW λQS hQ=>?_);unfold fQ;walk_at "rd"
 refine⟨_,zg ps,_,Ip ps [] nd (by show 0+_<=_;omega),by omega,by omega,by rw[b8];exact ZaQ (bK (by omega)),?_⟩
 rw[Zak,xM,jb (λi=>PV.int ((i:Nat):Int)) (λi=>PV.int (vI ps i:Nat)) _ λi hi=>?_]
 ·walk_at "rd"
  refine hQ _ ?_;unfold ul;rw[List.map_map];rfl
 ·rw[List.nil_append,show prD ps=.dk (ps.map λx=>((.inl x.1:Key),PV.int (x.2:Nat))) from rfl];walk_at "rd"
  exact Qi i
theorem Qj{ps:List (Int×Nat)}(nd:(ps.map Prod.fst).Pairwise (·<·)){x:Int×Nat}(hx:x∈ps)(h0:0<=x.1):vI ps x.1.toNat=x.2:=by
 unfold vI;induction ps with
 |nil=>cases hx
 |cons y ps ih=>
  rw[Zai,List.pairwise_cons] at nd;rw[Za3];rcases Zao.mp hx with rfl|q
  ·rw[ZaK (by omega)]
  ·have:=nd.1 x.1 (Zbd q);rw[Zay (by omega)]
   exact ih nd.2 q
theorem Sv{ps:List (Int×Nat)}{m:Nat}(nd:(ps.map Prod.fst).Pairwise (·<·))(hp:∀ x∈ps,0<=x.1/\x.1<m)(p:Nat):nZ ((List.range m).map (vI ps)) p=um ps p:=by
 unfold nZ um;have gd:∀ k,k<m->((List.range m).map (vI ps)).getD k 0=vI ps k:=λk hk=>by
  rw[ZaG,Zac,ZaJ hk];rfl
 rw[List.length_map,ZaB];refine DQ (List.Pairwise.filter _ List.pairwise_lt_range) ?_ λk=>?_
 ·have q:(ps.filter λx=>x.2.testBit p).Pairwise (λx y=>x.1<y.1):=List.Pairwise.filter _ (List.pairwise_map.mp nd);refine List.pairwise_map.mpr (List.Pairwise.imp_of_mem (λ{a b} ha hb hab=>?_) q);have:=hp a (Za2.mp ha).1;omega
 ·rw[Za2,ZaS,ZaR];constructor
  ·rintro⟨hk,hb⟩;rw[gd k hk] at hb;unfold vI at hb;cases e:ps.find? (λx=>decide (x.1=(k:Int))) with
   |none=>rw[e] at hb;simp at hb
   |some x=>
    rw[e] at hb;have h1:=List.find?_some e;have h2:=List.mem_of_find?_eq_some e;have h1:=of_decide_eq_true h1;exact⟨x,Za2.mpr ⟨h2,hb⟩,by omega⟩
  ·rintro⟨x,hx,rfl⟩;obtain⟨hx,hb⟩:=Za2.mp hx;have:=hp x hx;refine⟨by omega,?_⟩
   rw[gd _ (by omega),Qj nd hx this.1]
   exact hb
inductive Fst(w h:Nat)(f g:Nat->Nat->Str):PV->Prop
 |no (e:∀ r c,r<h->c<w->f c r=g c r):Fst w h f g .non
 |yes (c r:Nat) (hc:c<w) (hr:r<h) (ne:f c r≠g c r) (e1:∀ r' c',r'<r->c'<w->f c' r'=g c' r') (e2:∀ c',c'<c->f c' r=g c' r):Fst w h f g (.tup [.int c,.int r,.str (f c r),.str (g c r)])
theorem Fst.one{w h:Nat}{f g:Nat->Nat->Str}{p q:PV}(a:Fst w h f g p)(b:Fst w h f g q):p=q:=by
 cases a with
 |no e=>
  cases b with
  |no e'=>rfl
  |yes c r hc hr ne e1 e2=>exact absurd (e r c hr hc) ne
 |yes c r hc hr ne e1 e2=>
  cases b with
  |no e'=>exact absurd (e' r c hr hc) ne
  |yes c' r' hc' hr' ne' e1' e2'=>
   have er:r=r':=by
    rcases Nat.lt_trichotomy r r' with z|z|z
    ·exact absurd (e1' r c z hc) ne
    ·exact z
    ·exact absurd (e1 r' c' z hc') ne'
   subst er;have ec:c=c':=by
    rcases Nat.lt_trichotomy c c' with z|z|z
    ·exact absurd (e2' c z) ne
    ·exact z
    ·exact absurd (e2 c' z) ne'
   subst ec;rfl
structure Rows(w h:Nat)(f:Nat->Nat->Str)(F:List PV):Prop where
 len:F.length=h
 row:∀ r,r<h->∃ R,F[r]?=some (.lst R)/\R.length=w/\∀ c,c<w->R[c]?=some (.str (f c r))
theorem Ir{w h:Nat}(f:Nat->Nat->Str):∃ F:List PV,DG w h f=.lst F/\Rows w h f F:=by
 refine⟨_,rfl,by rw[List.length_map,ZaB],λr hr=>⟨_,by rw[Zac,ZaJ hr];rfl,by rw[List.length_map,ZaB],λc hc=>by rw[Zac,ZaJ hc];rfl⟩⟩
theorem M5{w h:Nat}{f g:Nat->Nat->Str}{F G:List PV}(hF:Rows w h f F)(hG:Rows w h g G):∃ p,ig [.lst F,.lst G]=some (.ok p)/\Fst w h f g p:=by
 refine pO (x:=ie (startR [.lst F,.lst G] 4)) (kW λQS hQ=>?_);unfold ie;rw[show startR [.lst F,PV.lst G] 4=[some (.sh (.lst F)),some (.sh (.lst G)),none,none,none,none] from rfl];walk_at "rd"
 refine pN (λr ρ=>∃ v2 v3 v4 v5:Option Sl,ρ=[some (.sh (.lst F)),some (.sh (.lst G)),v2,v3,v4,v5]/\∀ r' c',r'<r->c'<w->f c' r'=g c' r') ⟨_,_,_,_,rfl,λ_ _ h=>by(exact absurd h (Nat.not_lt_zero _))⟩ ?_ ?_
 ·rintro r x ρ hx ⟨v2,v3,v4,v5,rfl,e1⟩;have hr:r<h:=by rw[<-hF.len];exact bT hx
  obtain⟨R,eR,lR,hR⟩:=hF.row r hr;obtain⟨S,eS,lS,hS⟩:=hG.row r hr;rw[eR] at hx;cases hx;unfold mX;walk_at "rd"
  refine pN (λc ρ=>∃ v4 v5:Option Sl,ρ=[some (.sh (.lst F)),some (.sh (.lst G)),some (.sh (.int r)),some (.sh (.lst R)),v4,v5]/\∀ c',c'<c->f c' r=g c' r) ⟨_,_,rfl,λ_ h=>by(exact absurd h (Nat.not_lt_zero _))⟩ ?_ ?_
  ·rintro c y ρ hy ⟨v4,v5,rfl,e2⟩;have hc:c<w:=by rw[<-lR];exact bT hy
   rw[hR c hc] at hy;cases hy;refine QV λQT hN _ hRt _ _=>?_;unfold mW;walk_at "rd"
   refine⟨_,cP eS,?_⟩;walk_at "rd"
   refine⟨_,cP (hS c hc),?_⟩;walk_at "rd"
   refine jo (λq=>?_) λq=>?_
   ·unfold mU;walk_at "rd"
    refine⟨_,cP eS,?_⟩;walk_at "rd"
    exact⟨_,cP (hS c hc),by decide,hRt _ (hQ _ ⟨_,rfl,.yes c r hc hr q e1 e2⟩)⟩
   ·refine hN _ ⟨_,_,rfl,λc' hc'=>?_⟩;rcases Zbi.mp hc' with z|z
    ·exact e2 c' z
    ·subst z;exact Classical.not_not.mp q
  ·rintro ρ ⟨v4,v5,rfl,e2⟩;refine⟨_,_,_,_,rfl,λr' c' hr' hc'=>?_⟩;rcases Zbi.mp hr' with z|z
   ·exact e1 r' c' z hc'
   ·subst z;exact e2 c' (by rw[lR];exact hc')
 ·rintro ρ ⟨v2,v3,v4,v5,rfl,e1⟩;unfold mY;walk_at "rd"
  exact hQ _ ⟨_,rfl,.no λr c hr hc=>e1 r c (by rw[hF.len];exact hr) hc⟩
theorem Ul{w h:Nat}{f g:Nat->Nat->Str}{F G:List PV}(hw:w<=900)(hh:h<=900)(hF:Rows w h f F)(hG:Rows w h g G):∃ p,nY [.lst F,.lst G]=some (.ok p)/\Fst w h f g p:=by
 refine pO (x:=nW (startR [.lst F,.lst G] 2)) (kW λQS hQ=>?_);unfold nW;rw[show startR [.lst F,PV.lst G] 2=[some (.sh (.lst F)),some (.sh (.lst G)),none,none] from rfl];walk_at "rd"
 rw[hG.len];refine⟨by omega,by omega,?_⟩
 refine dh (λr ρ=>∃ v2 v3:Option Sl,ρ=[some (.sh (.lst F)),some (.sh (.lst G)),v2,v3]/\∀ r' c',r'<r->c'<w->f c' r'=g c' r') ⟨_,_,rfl,λ_ _ h=>by(exact absurd h (Nat.not_lt_zero _))⟩ ?_ ?_
 ·rintro r x ρ hx ⟨v2,v3,rfl,e1⟩;obtain⟨hr,rfl⟩:=iZ hx;rw[Zbf];rw[Zak] at hr;obtain⟨R,eR,lR,hR⟩:=hF.row r hr;obtain⟨S,eS,lS,hS⟩:=hG.row r hr;unfold uf;walk_at "rd"
  refine⟨_,cP eS,?_⟩;walk_at "rd"
  rw[lS];refine⟨by omega,by omega,?_⟩
  refine dh (λc ρ=>∃ v3:Option Sl,ρ=[some (.sh (.lst F)),some (.sh (.lst G)),some (.sh (.int r)),v3]/\∀ c',c'<c->f c' r=g c' r) ⟨_,rfl,λ_ h=>by(exact absurd h (Nat.not_lt_zero _))⟩ ?_ ?_
  ·rintro c y ρ hy ⟨v3,rfl,e2⟩;obtain⟨hc,rfl⟩:=iZ hy;rw[Zbf];rw[Zak] at hc;refine QV λQT hN _ hRt _ _=>?_;unfold ue;walk_at "rd"
   refine⟨_,cP eR,?_⟩;walk_at "rd"
   refine⟨_,cP (hR c hc),_,cP eS,?_⟩;walk_at "rd"
   refine⟨_,cP (hS c hc),?_⟩;walk_at "rd"
   refine jo (λq=>?_) λq=>?_
   ·unfold ud;walk_at "rd"
    refine⟨_,cP eR,?_⟩;walk_at "rd"
    refine⟨_,cP (hR c hc),_,cP eS,?_⟩;walk_at "rd"
    exact⟨_,cP (hS c hc),by decide,hRt _ (hQ _ ⟨_,rfl,.yes c r hc hr q e1 e2⟩)⟩
   ·refine hN _ ⟨_,rfl,λc' hc'=>?_⟩;rcases Zbi.mp hc' with z|z
    ·exact e2 c' z
    ·subst z;exact Classical.not_not.mp q
  ·rintro ρ ⟨v3,rfl,e2⟩;rw[b8,Zak] at e2;refine⟨_,_,rfl,λr' c' hr' hc'=>?_⟩;rcases Zbi.mp hr' with z|z
   ·exact e1 r' c' z hc'
   ·subst z;exact e2 c' hc'
 ·rintro ρ ⟨v2,v3,rfl,e1⟩;rw[b8,Zak] at e1;unfold ug;walk_at "rd"
  exact hQ _ ⟨_,rfl,.no e1⟩
theorem Rows.put{w h:Nat}{f:Nat->Nat->Str}{F:List PV}(hF:Rows w h f F){j n:Nat}(hj:j<h){R:List PV}(eR:F[j]?=some (.lst R))(z:Str):Rows w h (λc r=>if c=n/\r=j then z else f c r) (F.set j (.lst (R.set n (.str z)))):=by
 refine⟨by rw[List.length_set];exact hF.len,λr hr=>?_⟩
 obtain⟨R',e',l',h'⟩:=hF.row r hr;by_cases q:r=j
 ·subst q;rw[eR] at e';cases e';refine⟨_,ZaE (by rw[hF.len];exact hr),by rw[List.length_set];exact l',λc hc=>?_⟩
  by_cases y:c=n
  ·subst y;rw[ZaE (by rw[l'];exact hc),Zan ⟨rfl,rfl⟩]
  ·rw[Zad (Za0 y),Zap (λz=>y z.1)];exact h' c hc
 ·refine⟨R',by rw[Zad (Za0 q)];exact e',l',λc hc=>?_⟩
  rw[Zap (λz=>q z.2)];exact h' c hc
theorem Rows.eq{w h:Nat}{f:Nat->Nat->Str}{F:List PV}(hF:Rows w h f F):PV.lst F=DG w h f:=by
 unfold DG;congr 1
 refine List.ext_getElem? λr=>?_;by_cases hr:r<h
 ·obtain⟨R,e,l,hR⟩:=hF.row r hr;rw[e,Zac,ZaJ hr];show some (PV.lst R)=some (PV.lst _)
  congr 2
  refine List.ext_getElem? λc=>?_;by_cases hc:c<w
  ·rw[hR c hc,Zac,ZaJ hc];rfl
  ·rw[ZaD (by omega),ZaD (by rw[List.length_map,ZaB];omega)]
 ·have:=hF.len;rw[ZaD (by omega),ZaD (by rw[List.length_map,ZaB];omega)]
theorem vX{n k:Nat}(h:k<n):ixN n (k:Int)=some k:=by
 have:=Rw (n:=n) (i:=(k:Int)) (by omega) (by omega)
 simpa using this
theorem Iu{m n:Nat}(e:m=n)(h:0<n):ixN m (-1)=some (n-1):=by
 subst e;unfold ixN;rw[Zap (by decide),Zan (by omega)]
 congr 1
 omega
theorem M6{w h:Int}(sz:Sz w h)(ns:List Int){f:Nat->Nat->Str}{F:List PV}(hF:Rows w.toNat h.toNat f F):∃ (G:List PV) (g:Nat->Nat->Str),jk [.lst (ns.map .int),.lst F,.tup [.int w,.int h]]=some (.ok (.lst G))/\Rows w.toNat h.toNat g G:=by
 suffices q:∃ p,jk [.lst (ns.map .int),.lst F,.tup [.int w,.int h]]=some (.ok p)/\∃ (G:List PV) (g:Nat->Nat->Str),p=.lst G/\Rows w.toNat h.toNat g G by
  obtain⟨p,e,G,g,rfl,o⟩:=q;exact⟨G,g,e,o⟩
 have w0:=sz.w0;have w1:=sz.w1;have h0:=sz.h0;have h1:=sz.h1;obtain⟨c1,ec1⟩:=kh ns 1 (by decide)
 obtain⟨c2,ec2⟩:=kh ns 2 (by decide)
 have ec1:bQ [.lst (ns.map .int),.int 1]=_:=ec1;have ec2:bQ [.lst (ns.map .int),.int 2]=_:=ec2;obtain⟨cc,ew⟩:=sV c2 1 (by decide) (by decide)
 obtain⟨fs,es,h9,hp⟩:=jQ (cc+3) 9 (by decide) (by decide)
 have h9:fs.length=9:=by omega
 have at1:∀ i:Int,0<=i->i<9->atI (fs.map PV.int) i=some (.int (fs.getD i.toNat 0)):=λi h0 h1=>fP h0 (by omega)
 obtain⟨ws,eW,lW,_,_⟩:=xH c1 12 (by decide)
 have eW:dF [.int c1,.int 12]=_:=eW;have atW:∀ x:Int,∃ z,atI (ws.map PV.str) (x%12)=some (.str z):=λx=>by
  obtain⟨k,ek,hk⟩:=xT x (show 0<12 by decide)
  rw[show x%12=(k:Int) from ek];exact⟨_,cP (by rw[Zac,Zab (by omega)];rfl)⟩
 have big:∀ {n:Nat},n<=900->n<=sizeLine:=λh=>ZaQ (bK (by omega))
 refine Px (x:=lN (startR [.lst (ns.map .int),.lst F,.tup [.int w,.int h]] 7)) (kW λQS hQ=>?_);unfold lN;rw[show startR [PV.lst (ns.map .int),.lst F,.tup [.int w,.int h]] 7=[some (.sh (.lst (ns.map .int))),some (.sh (.lst F)),some (.sh (.tup [.int w,.int h])),none,none,none,none,none,none,none] from rfl];walk_at "rd"
 rw[ec2];walk_at "rd"
 rw[ew];walk_at "rd"
 rw[es];walk_at "rd"
 rw[ec1];walk_at "rd"
 rw[eW];walk_at "rd"
 have eF:F=(List.range h.toNat).map λr=>PV.lst ((List.range w.toNat).map λc=>.str (f c r)):=PV.lst.inj hF.eq;refine⟨by rw[hF.len];exact big (by omega),?_⟩
 have hcm:d7 (gN 0) mG (yX (m1 pJ (iB 0))) [none] F=some (.ok F):=by
  rw[eF];refine jb (λr:Nat=>PV.lst ((List.range w.toNat).map λc=>.str (f c r))) (λr:Nat=>PV.lst ((List.range w.toNat).map λc=>.str (f c r))) _ λr hr=>?_;walk_at "rd"
  exact ZaZ.mpr λx hx=>by obtain⟨c,_,rfl⟩:=ZaR.mp hx;rfl
 rw[hcm];walk_at "rd"
 refine⟨_,at1 0 (by decide) (by decide),?_⟩
 walk_at "rd"
 have hm:∀ x:Int,∃ j:Nat,x%h=(j:Int)/\j<h.toNat:=λx=>by
  obtain⟨j,ej,hj⟩:=xT x (show 0<h.toNat by omega)
  rw[ZaA (by omega)] at ej
  exact⟨j,ej,hj⟩
 have wm:∀ x:Int,∃ j:Nat,x%w=(j:Int)/\j<w.toNat:=λx=>by
  obtain⟨j,ej,hj⟩:=xT x (show 0<w.toNat by omega)
  rw[ZaA (by omega)] at ej
  exact⟨j,ej,hj⟩
 have fin8:∀ (G:List PV) (g:Nat->Nat->Str) (v6 v7 v8 v9:Option Sl),Rows w.toNat h.toNat g G->To (mj [some (.sh (.lst (ns.map .int))),some (.sh (.lst F)),some (.sh (.tup [.int w,.int h])),some (.sh (.lst (fs.map .int))),some (.sh (.lst (ws.map .str))),some (.dp (.lst G)),v6,v7,v8,v9]) QS:=λG g v6 v7 v8 v9 hG=>by
  unfold mj;walk_at "rd"
  exact hQ _ ⟨_,rfl,G,g,rfl,hG⟩
 have fin9:∀ (G:List PV) (g:Nat->Nat->Str) (v6 v7 v8 v9:Option Sl),Rows w.toNat h.toNat g G->To (mq [some (.sh (.lst (ns.map .int))),some (.sh (.lst F)),some (.sh (.tup [.int w,.int h])),some (.sh (.lst (fs.map .int))),some (.sh (.lst (ws.map .str))),some (.dp (.lst G)),v6,v7,v8,v9]) QS:=λG g v6 v7 v8 v9 hG=>by
  unfold mq;walk_at "rd"
  refine⟨_,at1 0 (by decide) (by decide),?_⟩
  walk_at "rd"
  refine⟨by decide,jo (λ_=>?_) λ_=>fin8 G g _ _ _ _ hG⟩
  unfold rQ;walk_at "rd"
  refine⟨by omega,by omega,?_⟩
  refine dh (λr ρ=>∃ (G:List PV) (g:Nat->Nat->Str) (v8 v9:Option Sl),ρ=[some (.sh (.lst (ns.map .int))),some (.sh (.lst F)),some (.sh (.tup [.int w,.int h])),some (.sh (.lst (fs.map .int))),some (.sh (.lst (ws.map .str))),some (.dp (.lst G)),v6,v7,v8,v9]/\Rows w.toNat h.toNat g G) ⟨G,g,_,_,rfl,hG⟩ ?_ ?_
  ·rintro r x ρ hx ⟨G,g,v8,v9,rfl,hG⟩;obtain⟨hr,rfl⟩:=iZ hx;rw[Zbf];unfold rP;walk_at "rd"
   refine⟨by omega,by omega,?_⟩
   refine dh (λc ρ=>∃ (G:List PV) (g:Nat->Nat->Str) (v9:Option Sl),ρ=[some (.sh (.lst (ns.map .int))),some (.sh (.lst F)),some (.sh (.tup [.int w,.int h])),some (.sh (.lst (fs.map .int))),some (.sh (.lst (ws.map .str))),some (.dp (.lst G)),v6,v7,some (.sh (.int r)),v9]/\Rows w.toNat h.toNat g G) ⟨G,g,_,rfl,hG⟩ ?_ ?_
   ·rintro c x ρ hx ⟨G,g,v9,rfl,hG⟩;obtain⟨hc,rfl⟩:=iZ hx;rw[Zbf];refine pM λQS hQ=>?_;unfold rO;walk_at "rd"
    refine⟨_,at1 6 (by decide) (by decide),_,at1 7 (by decide) (by decide),?_⟩
    walk_at "rd"
    refine⟨.inl ⟨by omega,by omega⟩,_,at1 8 (by decide) (by decide),?_⟩
    walk_at "rd"
    refine⟨.inl ⟨by omega,by omega⟩,by decide,jo (λ_=>?_) λ_=>hQ _ ⟨G,g,_,rfl,hG⟩⟩
    obtain⟨R,eR,lR,_⟩:=hG.row r hr;obtain⟨z,ez⟩:=atW ((r:Int)+(c:Int));unfold rN;refine Im (l:=G) (row:=R) (j:=r) (n:=c) (k:=(r:Int)) (m:=(c:Int)) (q:=.str z) rfl (j4 ?_) (j4 ?_) (vX (by rw[hG.len];exact hr)) eR (j4 ?_) (vX (by rw[lR];exact hc)) rfl (hQ _ ⟨_,_,_,rfl,hG.put hr eR z⟩)
    ·walk_at "rd"
     exact⟨by decide,_,ez,rfl⟩
    ·walk_at "rd"
    ·walk_at "rd"
   ·rintro ρ ⟨G,g,v9,rfl,hG⟩;exact⟨G,g,_,_,rfl,hG⟩
  ·rintro ρ ⟨G,g,v8,v9,rfl,hG⟩;exact fin8 G g _ _ _ _ hG
 have fin10:∀ (G:List PV) (g:Nat->Nat->Str) (v6 v7 v8 v9:Option Sl),Rows w.toNat h.toNat g G->To (j9 [some (.sh (.lst (ns.map .int))),some (.sh (.lst F)),some (.sh (.tup [.int w,.int h])),some (.sh (.lst (fs.map .int))),some (.sh (.lst (ws.map .str))),some (.dp (.lst G)),v6,v7,v8,v9]) QS:=λG g v6 v7 v8 v9 hG=>by
  unfold j9;walk_at "rd"
  refine⟨_,at1 0 (by decide) (by decide),?_⟩
  walk_at "rd"
  refine⟨by decide,jo (λ_=>?_) λ_=>fin9 G g _ _ _ _ hG⟩
  obtain⟨R,eR,lR,_⟩:=hG.row (h.toNat-1) (by omega)
  obtain⟨z,ez⟩:=atW (fs.getD 5 0);unfold rM;refine Im (l:=G) (row:=R) (j:=h.toNat-1) (n:=w.toNat-1) (k:=-1) (m:=-1) (q:=.str z) rfl (j4 ?_) (j4 ?_) (Iu (by rw[hG.len]) (by omega)) eR (j4 ?_) (Iu (by rw[lR]) (by omega)) rfl (fin9 _ _ _ _ _ _ (hG.put (by omega) eR z))
  ·walk_at "rd"
   refine⟨_,at1 5 (by decide) (by decide),?_⟩
   walk_at "rd"
   exact⟨by decide,_,ez,rfl⟩
  ·walk_at "rd"
  ·walk_at "rd"
 refine⟨by decide,jo (λ_=>?_) λ_=>fin10 F f _ _ _ _ hF⟩
 unfold rK;walk_at "rd"
 refine⟨_,at1 1 (by decide) (by decide),?_⟩
 walk_at "rd"
 obtain⟨e,ee,e3⟩:=xT (fs.getD 1 0) (show 0<3 by decide)
 rw[show fs.getD 1 0%3=(e:Int) from ee];refine⟨by decide,by omega,by omega,?_⟩
 refine dh (λi ρ=>∃ (G:List PV) (g:Nat->Nat->Str) (v6 v7:Option Sl),ρ=[some (.sh (.lst (ns.map .int))),some (.sh (.lst F)),some (.sh (.tup [.int w,.int h])),some (.sh (.lst (fs.map .int))),some (.sh (.lst (ws.map .str))),some (.dp (.lst G)),v6,v7,none,none]/\Rows w.toNat h.toNat g G) ⟨F,f,_,_,rfl,hF⟩ ?_ ?_
 ·rintro i x ρ hx ⟨G,g,v6,v7,rfl,hG⟩;obtain⟨hi,rfl⟩:=iZ hx;rw[Zbf];have hi:i<3:=by omega
  refine pM λQS hQ=>?_;obtain⟨j,ej,hj⟩:=hm (fs.getD (2+(i:Int)).toNat 0);obtain⟨n,en,hn⟩:=wm (fs.getD (3+(i:Int)).toNat 0);obtain⟨z,ez⟩:=atW (fs.getD (4+(i:Int)).toNat 0);obtain⟨R,eR,lR,_⟩:=hG.row j hj;unfold rJ;refine J0 (l:=G) (row:=R) (j:=j) (n:=n) (k:=(j:Int)) (m:=(n:Int)) (q:=.str z) rfl (by decide) (show 7<10 by decide) (j4 ?_) (vX (by rw[hG.len];exact hj)) eR (j4 ?_) (j4 ?_) (vX (by rw[lR];exact hn)) rfl (hQ _ ⟨_,_,_,_,rfl,hG.put hj eR z⟩)
  ·walk_at "rd"
   refine⟨_,at1 _ (by omega) (by omega),?_⟩
   walk_at "rd"
   exact⟨by omega,ej⟩
  ·walk_at "rd"
   refine⟨_,at1 _ (by omega) (by omega),?_⟩
   walk_at "rd"
   exact⟨by decide,_,ez,rfl⟩
  ·walk_at "rd"
   refine⟨_,at1 _ (by omega) (by omega),?_⟩
   walk_at "rd"
   exact⟨by omega,en⟩
 ·rintro ρ ⟨G,g,v6,v7,rfl,hG⟩;exact fin10 G g _ _ _ _ hG
theorem QX{w h m:Int}{l:List Dd}(gd:Good w h m l){W:Int->Nat}{x:Int×Nat}(hx:x∈pr w W l):0<=x.1/\x.1<m:=by
 have hi:x.1∈eU l:=by rw[<-iw w l W];exact Zbd hx
 refine⟨?_,gd.less _ hi⟩;obtain⟨d,hd,e⟩:=List.mem_filterMap.mp hi;have:=gd.ok d hd;cases d with
 |cut=>cases e
 |prt b i=>cases e;exact this.2
theorem Um{w h:Int}(sz:Sz w h)(paper:Str)(inks:List Ink)(h8:inks.length<=8){l:List Dd}(gd:Good w h inks.length l)(hl:l.length<=900){g:Nat->Nat->Str}{G:List PV}(hG:Rows w.toNat h.toNat g G) :
  ∃ p,lH [.tup [.str paper,.lst (inks.map dq)],.lst G,.lst (l.map Dd.p)]=some (.ok p)/\Fst w.toNat h.toNat (λc r=>cF inks paper (um (pr w (λ_=>eQ w h) l) (r*w.toNat+c))) g p:=by
 have h0:=sz.h0;have w0:=sz.w0;have nd:((pr w (λ_=>eQ w h) l).map Prod.fst).Pairwise (·<·):=by rw[iw];exact gd.inks
 have pl:(pr w (λ_=>eQ w h) l).length<=900:=by
  rw[<-List.length_map (f:=Prod.fst),iw];exact ZaC (Zbh _ _) hl
 have hp:∀ x∈pr w (λ_=>eQ w h) l,0<=x.1/\x.1<inks.length:=λx hx=>QX gd hx;have es:=M4 inks.length h8 _ nd pl;have e1:=JZ (w:=w.toNat) (h:=h.toNat) g (by omega)
 rw[show((w.toNat:Nat):Int)=w by omega,show((h.toNat:Nat):Int)=h by omega,<-hG.eq] at e1
 have ep:=DK sz paper inks ((List.range inks.length).map (vI (pr w (λ_=>eQ w h) l))) (by rw[List.length_map,ZaB];exact Zag _) h8
 rw[show(λc r=>cF inks paper (nZ ((List.range inks.length).map (vI (pr w (λ_=>eQ w h) l))) (r*w.toNat+c)))=(λc r=>cF inks paper (um (pr w (λ_=>eQ w h) l) (r*w.toNat+c))) by
  funext c r
  rw[Sv nd hp]] at ep
 obtain⟨F,eF,hF⟩:=Ir (w:=w.toNat) (h:=h.toNat) (λc r=>cF inks paper (um (pr w (λ_=>eQ w h) l) (r*w.toNat+c)));rw[eF] at ep;obtain⟨p,ef,hf⟩:=M5 hF hG;refine⟨p,dY (x:=lG (startR [.tup [.str paper,.lst (inks.map dq)],.lst G,.lst (l.map Dd.p)] 3)) ?_,hf⟩;unfold lG;walk_at "rd"
 rw[e1];walk_at "rd"
 rw[List.length_map,Qd sz gd];walk_at "rd"
 rw[es];walk_at "rd"
 rw[ep];walk_at "rd"
 rw[ef];walk_at "rd"
theorem Qk(n:Nat)(d:Dd):eqF (n+2) d.p d.p=some true:=by
 cases d with
 |cut b row l f t=>
  refine gm λx hx=>?_;simp only[Zao,ZaL,Zbo] at hx;rcases hx with rfl|rfl|rfl
  ·exact fK _ _
  ·exact jl _ _
  ·refine gm λx hx=>?_;simp only[Zao,ZaL,Zbo] at hx;rcases hx with rfl|rfl|rfl|rfl
   ·exact fK _ _
   ·exact jl _ _
   ·exact jl _ _
   ·exact jl _ _
 |prt b i=>
  refine gm λx hx=>?_;simp only[Zao,ZaL,Zbo] at hx;rcases hx with rfl|rfl|rfl
  ·exact fK _ _
  ·exact jl _ _
  ·exact jl _ _
theorem J1(n:Nat){w h:Nat}{g:Nat->Nat->Str}{G:List PV}(hG:Rows w h g G):eqF (n+2) (.lst G) (.lst G)=some true:=by
 refine uh λx hx=>?_;obtain⟨r,hr⟩:=List.mem_iff_getElem?.mp hx;obtain⟨R,e,l,hR⟩:=hG.row r (by rw[<-hG.len];exact bT hr)
 rw[hr] at e;cases e;refine uh λy hy=>?_;obtain⟨c,hc⟩:=List.mem_iff_getElem?.mp hy;have:=hR c (by rw[<-l];exact bT hc)
 rw[hc] at this;cases this;exact fK _ _
theorem M7(n:Nat){w h:Nat}{f g:Nat->Nat->Str}{p:PV}(hp:Fst w h f g p):eqF (n+1) p p=some true:=by
 cases hp with
 |no=>rfl
 |yes c r hc hr ne e1 e2=>
  refine gm λx hx=>?_;simp only[Zao,ZaL,Zbo] at hx;rcases hx with rfl|rfl|rfl|rfl
  ·exact jl _ _
  ·exact jl _ _
  ·exact fK _ _
  ·exact fK _ _
theorem law_main(ns:List Int)(hn:ns.length<=63):za [.lst (ns.map .int)]=some (.ok (.bl true)):=by
 refine dY (x:=Ig (startR [.lst (ns.map .int)] 9)) (kW λQS hQ=>?_);obtain⟨paper,inks,eb,ok⟩:=JT ns hn;have i1:1<=inks.length:=List.length_pos_iff.mpr ok.l0;have i8:=ok.l8;obtain⟨c0,ec0⟩:=kh ns 0 (by decide)
 have ec0:bQ [.lst (ns.map .int),.int 0]=_:=ec0;obtain⟨w,h,es,sz⟩:=Gh c0;obtain⟨l,el,ll,gd⟩:=Gi sz (m:=(inks.length:Int)) (by lia) (by lia) ns hn
 have w0:=sz.w0;have h0:=sz.h0;have w1:=sz.w1;have h1:=sz.h1;have nd:((pr w (λ_=>eQ w h) l).map Prod.fst).Pairwise (·<·):=by rw[iw];exact gd.inks
 have pl:(pr w (λ_=>eQ w h) l).length<=900:=by
  rw[<-List.length_map (f:=Prod.fst),iw];exact ZaC (Zbh _ _) (by lia)
 have epr:=Gm sz gd (by lia)
 obtain⟨cols,_,_,hcol⟩:=ok.ex;have epp:=DP sz (paper:=paper) (λk hk=>(hcol k hk).2) _ (λx hx=>QX gd hx) pl nd;obtain⟨F,eF,hF⟩:=Ir (w:=w.toNat) (h:=h.toNat) (λc r=>cF inks paper (um (pr w (λ_=>eQ w h) l) (r*w.toNat+c)));rw[eF] at epp;obtain⟨G,g,eG,hG⟩:=M6 sz ns hF;obtain⟨du,ed,hdu⟩:=Ul (by lia) (by lia) hF hG
 obtain⟨p,ep,hpf⟩:=Um sz paper inks i8 gd (by lia) hG
 have epd:=hpf.one hdu;subst epd;have big:∀ {n:Nat},n<=900->n<=sizeLine:=λh=>ZaQ (bK (by lia))
 unfold Ig;rw[show startR [PV.lst (ns.map .int)] 9=[some (.sh (.lst (ns.map .int))),none,none,none,none,none,none,none,none,none] from rfl];walk_at "rd"
 rw[eb];walk_at "rd"
 rw[ec0];walk_at "rd"
 rw[es,show sS paper inks=.tup [.str paper,.lst (inks.map dq)] from rfl];walk_at "rd"
 rw[List.length_map,el];walk_at "rd"
 rw[epr];walk_at "rd"
 rw[epp];walk_at "rd"
 rw[eG];walk_at "rd"
 have eG2:G=(List.range h.toNat).map λr=>PV.lst ((List.range w.toNat).map λc=>.str (g c r)):=PV.lst.inj hG.eq;have hcm:d7 (gN 0) mG (m1 pJ (iB 0)) [none] G=some (.ok G):=by
  rw[eG2];refine jb (λr:Nat=>PV.lst ((List.range w.toNat).map λc=>.str (g c r))) (λr:Nat=>PV.lst ((List.range w.toNat).map λc=>.str (g c r))) _ λr hr=>?_;walk_at "rd"
 refine⟨by decide,by rw[hG.len];exact big (by lia),?_⟩
 rw[hcm];walk_at "rd"
 rw[ed];walk_at "rd"
 refine⟨by decide,by decide,by decide,?_⟩
 have self:eqF 32 (PV.tup [PV.tup [PV.str paper,PV.lst (List.map dq inks)],PV.lst G,PV.lst (List.map Dd.p l)]) (PV.tup [PV.tup [PV.str paper,PV.lst (List.map dq inks)],PV.lst G,PV.lst (List.map Dd.p l)])=some true:=by
  refine gm λx hx=>?_;simp only[Zao,ZaL,Zbo] at hx;rcases hx with rfl|rfl|rfl
  ·exact Gb 26 paper inks
  ·exact J1 29 hG
  ·refine uh λy hy=>?_;obtain⟨d,_,rfl⟩:=ZaR.mp hy;exact Qk 28 d
 refine dh (λi ρ=>∃ v8 v9:Option Sl,ρ=[some (Sl.sh (PV.lst (List.map PV.int ns))),some (Sl.sh (PV.tup [PV.str paper,PV.lst (List.map dq inks)])),some (Sl.sh (PV.tup [PV.int w,PV.int h])),some (Sl.sh (PV.lst (List.map Dd.p l))),some (Sl.sh (PV.lst F)),some (Sl.sh (PV.lst G)),some (Sl.sh (PV.tup [PV.tup [PV.str paper,PV.lst (List.map dq inks)],PV.lst G,PV.lst (List.map Dd.p l)])),some (Sl.sh p),v8,v9]) ⟨_,_,rfl⟩ ?_ ?_
 ·rintro i x ρ hx ⟨v8,v9,rfl⟩;refine pM λQS hQ=>?_;unfold Ib;walk_at "rd"
  rw[ep];walk_at "rd"
  refine⟨by decide,_,self,?_⟩
  walk_at "rd"
  have f4:To (Ah [some (Sl.sh (PV.lst (List.map PV.int ns))),some (Sl.sh (PV.tup [PV.str paper,PV.lst (List.map dq inks)])),some (Sl.sh (PV.tup [PV.int w,PV.int h])),some (Sl.sh (PV.lst (List.map Dd.p l))),some (Sl.sh (PV.lst F)),some (Sl.sh (PV.lst G)),some (Sl.sh (PV.tup [PV.tup [PV.str paper,PV.lst (List.map dq inks)],PV.lst G,PV.lst (List.map Dd.p l)])),some (Sl.sh p),some (Sl.sh x),some (Sl.sh p)]) QS:=by
   have sf:=M7 31 hpf;unfold Ah;walk_at "rd"
   refine jo (λq=>?_) λq=>hQ _ ⟨_,_,rfl⟩;refine⟨true,by cases hpf with
    |no=>cases q
    |yes=>rfl,?_⟩
   walk_at "rd"
   refine⟨_,sf,?_⟩;walk_at "rd"
   exact hQ _ ⟨_,_,rfl⟩
  unfold Ia;walk_at "rd"
  refine jo (λq=>?_) λq=>f4;rw[Zap (by rw[q];decide)]
  exact f4
 ·rintro ρ ⟨v8,v9,rfl⟩;unfold Ie;walk_at "rd"
  exact hQ _ rfl
def top(i:Nat):Stmt:=PySem.Challenge.pw_lostblock_k42_whole_plans_held.main.body.getD i (.Pass ⟨0,0,0,0⟩)
def eD(P:Params)(x:Str)(t:Tok)(v:Value):DictEntry:={ hash:=PyData.keyHash P x,key:=.str x t,val:=v }
def fO(n:Str)(i:Nat)(pm:Value)(c:Nat):Obj:={ cls:=.type "function",data:=.func (fnOf n n (bx (top i)) (bh (top i)) (aL (top i)) .none .none .none pm none (.ref c) .none) }
def cO(n:Str)(t1 t2 t3:Tok)(l k:Int)(a:Nat)(m:Int)(b:Nat)(u v:Value)(c:Nat)(z:Int)(t4:Tok):Obj:={ cls:=.type "code",data:=.fields #[.str n t1,.str n t2,.str "/claim/cut.py" t3,.int l 0,.int k 0,.int 0 0,.int 0 0,.int 3 0,.ref a,.bool true,.int m 0,.ref b,.none,u,v,.ref c,.int z 0,.int l 0,.str "/claim/cut.py" t4] }
def KK:Params->Frag:=λP=>(nat_lit 3,{ cls:=.type "dict",data:=.dict #[eD P "__name__" 165 (.str "law_lostblock_k42_whole_plans_held" 454),eD P "__doc__" 166 .none,eD P "__package__" 167 .none,eD P "__loader__" 168 (.builtin "__main__.__loader__#opaque"),eD P "__spec__" 169 .none,eD P "__annotations__" 170 (.ref 6),eD P "__builtins__" 171 (.ref 4),eD P "__file__" 173 (.str "/claim/cut.py" 172),eD P "__cached__" 174 .none,eD P "BlockError" 206 (.ref 24),eD P "NoDeed" 231 (.ref 44),eD P "is_whole" 240 (.ref 53),eD P "place_of" 248 (.ref 60),eD P "has_cell" 257 (.ref 67),eD P "all_of" 264 (.ref 74),eD P "set_of" 274 (.ref 81),eD P "size_of" 283 (.ref 88),eD P "ROW" 287 (.str "row" 286),eD P "COLUMN" 289 (.str "column" 288),eD P "is_stroke" 295 (.ref 93),eD P "lines_of" 303 (.ref 100),eD P "length_of" 311 (.ref 107),eD P "lies_on" 319 (.ref 114),eD P "stroke_cells" 325 (.ref 119),eD P "cells_cut" 333 (.ref 126),eD P "CUT" 337 (.str "cut" 336),eD P "PRINT" 339 (.str "print" 338),eD P "is_number" 346 (.ref 133),eD P "is_deed" 354 (.ref 140),eD P "can_follow" 363 (.ref 147),eD P "replayed_with" 377 (.ref 154),eD P "COVER" 381 (.str "cover" 380),eD P "laid" 391 (.ref 161),eD P "colour_of" 401 (.ref 168),eD P "stack_at" 409 (.ref 173),eD P "pressed_row" 415 (.ref 178),eD P "pressed" 421 (.ref 183),eD P "states_printed" 429 (.ref 188),eD P "first_unlike" 441 (.ref 195),eD P "unlike_at" 453 (.ref 202),eD P "_law_cell_at" 463 (.ref 209),eD P "_law_window" 472 (.ref 216),eD P "_law_stream" 483 (.ref 223),eD P "_law_words" 489 (.ref 228),eD P "_law_pair" 495 (.ref 233),eD P "_law_ink" 508 (.ref 240),eD P "_law_bench" 523 (.ref 247),eD P "_law_size" 529 (.ref 252),eD P "_law_stroke" 541 (.ref 259),eD P "_law_plan" 556 (.ref 266),eD P "_law_mask" 570 (.ref 273),eD P "_law_prints" 584 (.ref 280),eD P "_law_colour" 595 (.ref 287),eD P "_law_pressed" 601 (.ref 292),eD P "_law_wish" 607 (.ref 297),eD P "_law_due" 617 (.ref 304),eD P "law" 623 (.ref 309)] 57 })::(nat_lit 52,cO "is_whole" 234 235 236 9 1 47 181 48 (.ref 49) (.ref 50) 51 238 239)::(nat_lit 53,fO "is_whole" 4 (.str "lostblock.boards" 232) 52)::(nat_lit 59,cO "place_of" 241 242 243 11 2 54 181 55 (.ref 56) (.ref 57) 58 246 247)::(nat_lit 60,fO "place_of" 5 (.str "lostblock.boards" 232) 59)::(nat_lit 66,cO "has_cell" 249 250 251 13 3 61 181 62 (.ref 63) (.ref 64) 65 255 256)::(nat_lit 67,fO "has_cell" 6 (.str "lostblock.boards" 232) 66)::(nat_lit 73,cO "all_of" 258 259 260 15 1 68 181 69 (.ref 70) (.ref 71) 72 262 263)::(nat_lit 74,fO "all_of" 7 (.str "lostblock.boards" 232) 73)::(nat_lit 80,cO "set_of" 265 266 267 17 2 75 181 76 (.ref 77) (.ref 78) 79 272 273)::(nat_lit 81,fO "set_of" 8 (.str "lostblock.boards" 232) 80)::(nat_lit 87,cO "size_of" 277 278 279 23 1 82 181 83 (.ref 84) (.ref 85) 86 281 282)::(nat_lit 88,fO "size_of" 10 (.str "lostblock.pictures" 275) 87)::(nat_lit 92,cO "is_stroke" 290 291 292 28 1 89 181 90 .none .none 91 293 294)::(nat_lit 93,fO "is_stroke" 14 (.str "lostblock.strokes" 284) 92)::(nat_lit 99,cO "lines_of" 296 297 298 34 2 94 181 95 (.ref 96) (.ref 97) 98 301 302)::(nat_lit 100,fO "lines_of" 15 (.str "lostblock.strokes" 284) 99)::(nat_lit 106,cO "length_of" 304 305 306 36 2 101 181 102 (.ref 103) (.ref 104) 105 309 310)::(nat_lit 107,fO "length_of" 16 (.str "lostblock.strokes" 284) 106)::(nat_lit 113,cO "lies_on" 312 313 314 38 2 108 181 109 (.ref 110) (.ref 111) 112 317 318)::(nat_lit 114,fO "lies_on" 17 (.str "lostblock.strokes" 284) 113)::(nat_lit 118,cO "stroke_cells" 320 321 322 42 1 115 181 116 .none .none 117 323 324)::(nat_lit 119,fO "stroke_cells" 18 (.str "lostblock.strokes" 284) 118)::(nat_lit 125,cO "cells_cut" 326 327 328 46 2 120 181 121 (.ref 122) (.ref 123) 124 331 332)::(nat_lit 126,fO "cells_cut" 19 (.str "lostblock.strokes" 284) 125)::(nat_lit 132,cO "is_number" 340 341 342 51 1 127 181 128 (.ref 129) (.ref 130) 131 344 345)::(nat_lit 133,fO "is_number" 23 (.str "lostblock.plans" 334) 132)::(nat_lit 139,cO "is_deed" 347 348 349 53 2 134 181 135 (.ref 136) (.ref 137) 138 352 353)::(nat_lit 140,fO "is_deed" 24 (.str "lostblock.plans" 334) 139)::(nat_lit 146,cO "can_follow" 355 356 357 61 3 141 181 142 (.ref 143) (.ref 144) 145 361 362)::(nat_lit 147,fO "can_follow" 25 (.str "lostblock.plans" 334) 146)::(nat_lit 153,cO "replayed_with" 364 365 366 65 3 148 181 149 (.ref 150) (.ref 151) 152 375 376)::(nat_lit 154,fO "replayed_with" 26 (.str "lostblock.plans" 334) 153)::(nat_lit 160,cO "laid" 382 383 384 81 2 155 181 156 (.ref 157) (.ref 158) 159 389 390)::(nat_lit 161,fO "laid" 29 (.str "lostblock.inks" 378) 160)::(nat_lit 167,cO "colour_of" 392 393 394 88 2 162 181 163 (.ref 164) (.ref 165) 166 399 400)::(nat_lit 168,fO "colour_of" 30 (.str "lostblock.inks" 378) 167)::(nat_lit 172,cO "stack_at" 404 405 406 94 3 169 181 170 .none .none 171 407 408)::(nat_lit 173,fO "stack_at" 32 (.str "lostblock.press" 402) 172)::(nat_lit 177,cO "pressed_row" 410 411 412 96 4 174 181 175 .none .none 176 413 414)::(nat_lit 178,fO "pressed_row" 33 (.str "lostblock.press" 402) 177)::(nat_lit 182,cO "pressed" 416 417 418 98 3 179 181 180 .none .none 181 419 420)::(nat_lit 183,fO "pressed" 34 (.str "lostblock.press" 402) 182)::(nat_lit 187,cO "states_printed" 424 425 426 101 2 184 181 185 .none .none 186 427 428)::(nat_lit 188,fO "states_printed" 36 (.str "lostblock.looks" 422) 187)::(nat_lit 194,cO "first_unlike" 430 431 432 104 2 189 181 190 (.ref 191) (.ref 192) 193 439 440)::(nat_lit 195,fO "first_unlike" 37 (.str "lostblock.looks" 422) 194)::(nat_lit 201,cO "unlike_at" 442 443 444 110 3 196 181 197 (.ref 198) (.ref 199) 200 451 452)::(nat_lit 202,fO "unlike_at" 38 (.str "lostblock.looks" 422) 201)::(nat_lit 208,cO "_law_cell_at" 456 457 458 116 2 203 181 204 (.ref 205) (.ref 206) 207 461 462)::(nat_lit 209,fO "_law_cell_at" 40 (.str "law_lostblock_k42_whole_plans_held" 454) 208)::(nat_lit 215,cO "_law_window" 464 465 466 120 2 210 181 211 (.ref 212) (.ref 213) 214 470 471)::(nat_lit 216,fO "_law_window" 41 (.str "law_lostblock_k42_whole_plans_held" 454) 215)::(nat_lit 222,cO "_law_stream" 473 474 475 126 2 217 181 218 (.ref 219) (.ref 220) 221 481 482)::(nat_lit 223,fO "_law_stream" 42 (.str "law_lostblock_k42_whole_plans_held" 454) 222)::(nat_lit 227,cO "_law_words" 484 485 486 140 2 224 181 225 .none .none 226 487 488)::(nat_lit 228,fO "_law_words" 43 (.str "law_lostblock_k42_whole_plans_held" 454) 227)::(nat_lit 232,cO "_law_pair" 490 491 492 156 3 229 181 230 .none .none 231 493 494)::(nat_lit 233,fO "_law_pair" 44 (.str "law_lostblock_k42_whole_plans_held" 454) 232)::(nat_lit 239,cO "_law_ink" 496 497 498 160 3 234 181 235 (.ref 236) (.ref 237) 238 506 507)::(nat_lit 240,fO "_law_ink" 45 (.str "law_lostblock_k42_whole_plans_held" 454) 239)::(nat_lit 246,cO "_law_bench" 509 510 511 168 1 241 181 242 (.ref 243) (.ref 244) 245 521 522)::(nat_lit 247,fO "_law_bench" 46 (.str "law_lostblock_k42_whole_plans_held" 454) 246)::(nat_lit 251,cO "_law_size" 524 525 526 181 1 248 181 249 .none .none 250 527 528)::(nat_lit 252,fO "_law_size" 47 (.str "law_lostblock_k42_whole_plans_held" 454) 251)::(nat_lit 258,cO "_law_stroke" 530 531 532 184 2 253 181 254 (.ref 255) (.ref 256) 257 539 540)::(nat_lit 259,fO "_law_stroke" 48 (.str "law_lostblock_k42_whole_plans_held" 454) 258)::(nat_lit 265,cO "_law_plan" 542 543 544 190 3 260 181 261 (.ref 262) (.ref 263) 264 554 555)::(nat_lit 266,fO "_law_plan" 49 (.str "law_lostblock_k42_whole_plans_held" 454) 265)::(nat_lit 272,cO "_law_mask" 557 558 559 203 2 267 181 268 (.ref 269) (.ref 270) 271 568 569)::(nat_lit 273,fO "_law_mask" 50 (.str "law_lostblock_k42_whole_plans_held" 454) 272)::(nat_lit 279,cO "_law_prints" 571 572 573 212 2 274 181 275 (.ref 276) (.ref 277) 278 582 583)::(nat_lit 280,fO "_law_prints" 51 (.str "law_lostblock_k42_whole_plans_held" 454) 279)::(nat_lit 286,cO "_law_colour" 585 586 587 222 2 281 181 282 (.ref 283) (.ref 284) 285 593 594)::(nat_lit 287,fO "_law_colour" 52 (.str "law_lostblock_k42_whole_plans_held" 454) 286)::(nat_lit 291,cO "_law_pressed" 596 597 598 231 3 288 181 289 .none .none 290 599 600)::(nat_lit 292,fO "_law_pressed" 53 (.str "law_lostblock_k42_whole_plans_held" 454) 291)::(nat_lit 296,cO "_law_wish" 602 603 604 244 3 293 181 294 .none .none 295 605 606)::(nat_lit 297,fO "_law_wish" 54 (.str "law_lostblock_k42_whole_plans_held" 454) 296)::(nat_lit 303,cO "_law_due" 608 609 610 260 2 298 181 299 (.ref 300) (.ref 301) 302 615 616)::(nat_lit 304,fO "_law_due" 55 (.str "law_lostblock_k42_whole_plans_held" 454) 303)::(nat_lit 308,cO "law" 618 619 620 266 1 305 181 306 .none .none 307 621 622)::(nat_lit 309,fO "law" 56 (.str "law_lostblock_k42_whole_plans_held" 454) 308)::[]
structure Txt(mg:Str->Option Value):Prop where
 tt:True
 Uo:mg "all"=none
 SJ:mg "bool"=none
 Nb:mg "dict"=none
 gK:mg "enumerate"=none
 Uq:mg "int"=none
 eX:mg "isinstance"=none
 jn:mg "len"=none
 Bg:mg "list"=none
 dm:mg "range"=none
 QZ:mg "str"=none
 n6:mg "tuple"=none
 Nf:∃ t,mg "COLUMN"=some (.str "column" t)
 Qm:∃ t,mg "COVER"=some (.str "cover" t)
 Q0:∃ t,mg "CUT"=some (.str "cut" t)
 Qn:∃ t,mg "PRINT"=some (.str "print" t)
 Iv:∃ t,mg "ROW"=some (.str "row" t)
section
seal PE PA PS PSs PG PGs PI PPs MJ MT MA MAL MO MS MG MGs MI
variable{P:Program}{w:World}{K:Frag}{mg:Str->Option Value}{base:Heap}
theorem DR:bB ["thing"] ["thing"] (aL (top 4)):=⟨rfl,rfl,rfl,by decide +kernel,rfl,by decide +kernel,by decide +kernel⟩
theorem DW(T:Txt mg)(D:bj K mg "is_whole" (top 4) ["thing"]):FnAt P w K mg base "is_whole" 1 ["thing"] (spM K XR0 iC):=by
 refine D.ok DR (λvs H Q E h=>cj h λps r e=>match ps,e with|[_],_=>rfl) (λf cdv A outer s H vs Q E hr h=>?_)
 refine⟨_,(aN (bw (uw (bZ jZ rfl T.eX (by decide +kernel) (ao (pv 0) (ao (wD rfl T.Uq (n:="int") (by decide +kernel)) aG))) (uv (Q8 (bZ jZ rfl T.eX (by decide +kernel) (ao (pv 0) (ao (wD rfl T.SJ (n:="bool") (by decide +kernel)) aG)))))))),cg (b:=nG) (k:=1) (n:=0) rfl (λps r e=>match ps,e with|[_],e=>⟨rfl,e⟩) h λio H0 F0 hio=>?_⟩
 exact(bL (uG (rW aH.up FP (bJ 0) wI) (RK (rW aH.up FP (bJ 0) wI))))
theorem DX:bB ["size","cell"] ["size","cell"] (aL (top 5)):=⟨rfl,rfl,rfl,by decide +kernel,rfl,by decide +kernel,by decide +kernel⟩
theorem DY(T:Txt mg)(D:bj K mg "place_of" (top 5) ["size","cell"]):FnAt P w K mg base "place_of" 1 ["size","cell"] (spM K XR0 iD):=by
 refine D.ok DX (λvs H Q E h=>cj h λps r e=>match ps,e with|[_,_],_=>rfl) (λf cdv A outer s H vs Q E hr h=>?_)
 refine⟨_,(aN (bw (aR bC (aR dM (aP aK (pv 1) aA (λ_ _=>rfl)) (aP aK (pv 0) aA (λ_ _=>rfl))) (aP aK (pv 1) aA (λ_ _=>rfl))))),cg (b:=sI) (k:=2) (n:=0) rfl (λps r e=>match ps,e with|[_,_],e=>⟨rfl,e⟩) h λio H0 F0 hio=>?_⟩
 exact(bL (au aF.up cA (au aF.up iy (au aF.up bc (aj 1) aB) (au aF.up bc (aj 0) aB)) (au aF.up bc (aj 1) aB)))
theorem Ea:bB ["size","some","cell"] ["size","some","cell"] (aL (top 6)):=⟨rfl,rfl,rfl,by decide +kernel,rfl,by decide +kernel,by decide +kernel⟩
theorem Eb(T:Txt mg)(D:bj K mg "has_cell" (top 6) ["size","some","cell"])(sW:FnAt P w K mg base "place_of" 1 ["size","cell"] (spM K XR0 iD)):FnAt P w K mg base "has_cell" 2 ["size","some","cell"] (spM K XR0 nH):=by
 refine D.ok Ea (λvs H Q E h=>cj h λps r e=>match ps,e with|[_,_,_],_=>rfl) (λf cdv A outer s H vs Q E hr h=>?_)
 refine⟨_,(aN (bw (kj (dD hr) (aR zr (aR Km (pv 1) (aW sW (hr.mono (by decide)) rfl (ao (pv 0) (ao (pv 2) aG)))) aA) aA (bN _)))),cg (b:=sJ) (k:=3) (n:=0) rfl (λps r e=>match ps,e with|[_,_,_],e=>⟨rfl,e⟩) h λio H0 F0 hio=>?_⟩
 exact(bL (au aH.up jD (bz (au aF.up Ho (au aF.up QK (aj 1) (bM (az (aj 0) (az (aj 2) aO)))) aB)) (bz aB)))
theorem J2:bB ["size"] ["size"] (aL (top 7)):=⟨rfl,rfl,rfl,by decide +kernel,rfl,by decide +kernel,by decide +kernel⟩
theorem J3(T:Txt mg)(D:bj K mg "all_of" (top 7) ["size"]):FnAt P w K mg base "all_of" 1 ["size"] (spM K XR0 tY):=by
 refine D.ok J2 (λvs H Q E h=>cj h λps r e=>match ps,e with|[_],_=>rfl) (λf cdv A outer s H vs Q E hr h=>?_)
 refine⟨_,(aN (bw (aR rR (aR wu aA (aR dM (aP aK (pv 0) aA (λ_ _=>rfl)) (aP aK (pv 0) aA (λ_ _=>rfl)))) aA))),cg (b:=tX) (k:=1) (n:=0) rfl (λps r e=>match ps,e with|[_],e=>⟨rfl,e⟩) h λio H0 F0 hio=>?_⟩
 exact(bL (au aF.up wQ (au aF.up Cw aB (au aF.up iy (au aF.up bc (aj 0) aB) (au aF.up bc (aj 0) aB))) aB))
theorem qM:bB ["size","cells","some","cell"] ["size","cells"] (aL (top 8)):=⟨rfl,rfl,rfl,by decide +kernel,rfl,by decide +kernel,by decide +kernel⟩
theorem J4(T:Txt mg)(D:bj K mg "set_of" (top 8) ["size","cells"])(sW:FnAt P w K mg base "place_of" 1 ["size","cell"] (spM K XR0 iD)):FnAt P w K mg base "set_of" 2 ["size","cells"] (spM K XR0 tZ):=by
 refine D.ok qM (λvs H Q E h=>cj h λps r e=>match ps,e with|[_,_],_=>rfl) (λf cdv A outer s H vs Q E hr h=>?_)
 refine⟨_,(aC (aY (i:=2) qM.nd rfl (Or.inl rfl) aA)
   (aC (dw Zaq rfl (iJ (pv 1)) (bH (i:=3) qM.nd rfl (Or.inl rfl))
    (aN (aY (i:=2) qM.nd rfl (Or.inl rfl) (aR Tc (pv 2) (aR wu aA (aW sW (hr.mono (by decide)) rfl (ao (pv 0) (ao (pv 3) aG))))))))
   (aN (bw (pv 2))))),cg (b:=xF) (k:=2) (n:=2) rfl (λps r e=>match ps,e with|[_,_],e=>⟨rfl,e⟩) h λio H0 F0 hio=>?_⟩
 exact(aQ (bu aB (aM 2))
   (aQ (dC (jE (aj 1)) (aM 3)
    (bu (au aF.up Uz (aj 2) (au aF.up Cw aB (bM (az (aj 0) (az (aj 3) aO))))) (aM 2)))
   (bL (aj 2))))
theorem Gp:bB ["picture"] ["picture"] (aL (top 10)):=⟨rfl,rfl,rfl,by decide +kernel,rfl,by decide +kernel,by decide +kernel⟩
theorem Gq(T:Txt mg)(D:bj K mg "size_of" (top 10) ["picture"]):FnAt P w K mg base "size_of" 1 ["picture"] (spM K XR0 qG):=by
 refine D.ok Gp (λvs H Q E h=>cj h λps r e=>match ps,e with|[_],_=>rfl) (λf cdv A outer s H vs Q E hr h=>?_)
 refine⟨_,(aN (bw (fB (ao (bZ cY rfl T.jn (by decide +kernel) (ao (aP aK (pv 0) aA (λ_ _=>rfl)) aG)) (ao (bZ cY rfl T.jn (by decide +kernel) (ao (pv 0) aG)) aG))))),cg (b:=qF) (k:=1) (n:=0) rfl (λps r e=>match ps,e with|[_],e=>⟨rfl,e⟩) h λio H0 F0 hio=>?_⟩
 exact(bL (fC (az (dN jd (bz (au aF.up bc (aj 0) aB))) (az (dN jd (bJ 0)) aO))))
theorem Ao:bB ["thing"] ["thing"] (aL (top 14)):=⟨rfl,rfl,rfl,by decide +kernel,rfl,by decide +kernel,by decide +kernel⟩
theorem Aq(T:Txt mg)(D:bj K mg "is_stroke" (top 14) ["thing"])(sX:FnAt P w K mg base "is_whole" 1 ["thing"] (spM K XR0 iC)):FnAt P w K mg base "is_stroke" 2 ["thing"] (spM K XR0 kZ):=by
 refine D.ok Ao (λvs H Q E h=>cj h λps r e=>match ps,e with|[_],_=>rfl) (λf cdv A outer s H vs Q E hr h=>?_)
 refine⟨_,(aC (cX (PW.pt (Bt (pq (lQ (bZ jZ rfl T.eX (by decide +kernel) (ao (pv 0) (ao (wD rfl T.n6 (n:="tuple") (by decide +kernel)) aG))))) (vY (bG (uI hr) (bZ cY rfl T.jn (by decide +kernel) (ao (pv 0) aG)) aA (bN _)))))
    (aN (bw qP))
    cB)
   (aC (cX (PW.pt (Bt (pq (lQ (bZ jZ rfl T.eX (by decide +kernel) (ao (aP aK (pv 0) aA (λ_ _=>rfl)) (ao (wD rfl T.QZ (n:="str") (by decide +kernel)) aG))))) (vY (bG (yN hr) (aP aK (pv 0) aA (λ_ _=>rfl)) (fB (ao (tH rfl T.Iv) (ao (tH rfl T.Nf) aG))) (by with_unfolding_all rfl)))))
    (aN (bw qP))
    cB)
   (aN (bw (uw (bZ (Kz rfl) rfl T.Uo (by decide +kernel) (ao (gq ["number"] [none] rfl (iJ (jT Rq (pv 0) (gO aA) qp)) (λ_ _ _ _ _=>(dO (i:=0) (by decide +kernel) rfl rfl)) (λ_ _ _ _ _=>jV) (λ_ _ _ _ _=>(aW sX (hr.mono (by decide)) (glc rfl) (ao (pvl 0) aG)))) aG)) (uv (kj Fy (aP aK (pv 0) aA (λ_ _=>rfl)) (aP aK (pv 0) aA (λ_ _=>rfl)) (bN _)))))))),cg (b:=kY) (k:=1) (n:=0) rfl (λps r e=>match ps,e with|[_],e=>⟨rfl,e⟩) h λio H0 F0 hio=>?_⟩
 exact(aQ (dg (Ck (pC (lU (rW aH.up FP (bJ 0) wI))) (bF (au aH.up Jw (bz (dN jd (bJ 0))) (bz aB))))
    (bL qU)
    cC)
   (aQ (dg (Ck (pC (lU (rW aH.up FP (bz (au aF.up bc (aj 0) aB)) wI))) (bF (au aH.up Hq (bz (au aF.up bc (aj 0) aB)) (bz (fC (az eE (az eE aO)))))))
    (bL qU)
    cC)
   (bL (uG (dN Ud (jB (jF (jE (RT (aj 0) (gQ aB) qw)) (aM 0) (fG 0) jY (bM (az (aj 0) aO))))) (au aF.up RQ (au aF.up bc (aj 0) aB) (au aF.up bc (aj 0) aB))))))
theorem Ec:bB ["size","kind"] ["size","kind"] (aL (top 15)):=⟨rfl,rfl,rfl,by decide +kernel,rfl,by decide +kernel,by decide +kernel⟩
theorem Ed(T:Txt mg)(D:bj K mg "lines_of" (top 15) ["size","kind"]):FnAt P w K mg base "lines_of" 1 ["size","kind"] (spM K XR0 nM):=by
 refine D.ok Ec (λvs H Q E h=>cj h λps r e=>match ps,e with|[_,_],_=>rfl) (λf cdv A outer s H vs Q E hr h=>?_)
 refine⟨_,(aN (bw (Bu (bG (dD hr) (pv 1) (tH rfl T.Iv) (bN _)) (aP aK (pv 0) aA (λ_ _=>rfl)) (aP aK (pv 0) aA (λ_ _=>rfl))))),cg (b:=nJ) (k:=2) (n:=0) rfl (λps r e=>match ps,e with|[_,_],e=>⟨rfl,e⟩) h λio H0 F0 hio=>?_⟩
 exact(bL (QG (bF (au aH.up jD (bJ 1) (bz eE))) (au aF.up bc (aj 0) aB) (au aF.up bc (aj 0) aB)))
theorem Ar:bB ["size","kind"] ["size","kind"] (aL (top 16)):=⟨rfl,rfl,rfl,by decide +kernel,rfl,by decide +kernel,by decide +kernel⟩
theorem Av(T:Txt mg)(D:bj K mg "length_of" (top 16) ["size","kind"]):FnAt P w K mg base "length_of" 1 ["size","kind"] (spM K XR0 lq):=by
 refine D.ok Ar (λvs H Q E h=>cj h λps r e=>match ps,e with|[_,_],_=>rfl) (λf cdv A outer s H vs Q E hr h=>?_)
 refine⟨_,(aN (bw (Bu (bG (dD hr) (pv 1) (tH rfl T.Iv) (bN _)) (aP aK (pv 0) aA (λ_ _=>rfl)) (aP aK (pv 0) aA (λ_ _=>rfl))))),cg (b:=lg) (k:=2) (n:=0) rfl (λps r e=>match ps,e with|[_,_],e=>⟨rfl,e⟩) h λio H0 F0 hio=>?_⟩
 exact(bL (QG (bF (au aH.up jD (bJ 1) (bz eE))) (au aF.up bc (aj 0) aB) (au aF.up bc (aj 0) aB)))
theorem Gr:bB ["size","thing"] ["size","thing"] (aL (top 17)):=⟨rfl,rfl,rfl,by decide +kernel,rfl,by decide +kernel,by decide +kernel⟩
theorem Gs(T:Txt mg)(D:bj K mg "lies_on" (top 17) ["size","thing"])(Em:FnAt P w K mg base "is_stroke" 2 ["thing"] (spM K XR0 kZ))(GC:FnAt P w K mg base "lines_of" 1 ["size","kind"] (spM K XR0 nM))(En:FnAt P w K mg base "length_of" 1 ["size","kind"] (spM K XR0 lq)):FnAt P w K mg base "lies_on" 3 ["size","thing"] (spM K XR0 qI):=by
 refine D.ok Gr (λvs H Q E h=>cj h λps r e=>match ps,e with|[_,_],_=>rfl) (λf cdv A outer s H vs Q E hr h=>?_)
 refine⟨_,(aC (cX (pq (lQ (aW Em (hr.mono (by decide)) rfl (ao (pv 1) aG))))
    (aN (bw qP))
    cB)
   (aN (bw (uw (Kq Fy uJ aA (aP aK (pv 1) aA (λ_ _=>rfl)) (aW GC (hr.mono (by decide)) rfl (ao (pv 0) (ao (aP aK (pv 1) aA (λ_ _=>rfl)) aG)))) (uw (kj Fy aA (aP aK (pv 1) aA (λ_ _=>rfl)) (bN _)) (uv (kj uJ (aP aK (pv 1) aA (λ_ _=>rfl)) (aW En (hr.mono (by decide)) rfl (ao (pv 0) (ao (aP aK (pv 1) aA (λ_ _=>rfl)) aG))) (bN _)))))))),cg (b:=qH) (k:=2) (n:=0) rfl (λps r e=>match ps,e with|[_,_],e=>⟨rfl,e⟩) h λio H0 F0 hio=>?_⟩
 exact(aQ (dg (pC (lU (bM (az (aj 1) aO))))
    (bL qU)
    cC)
   (bL (uG (K1 RQ Jv aB (au aF.up bc (aj 1) aB) (bM (az (aj 0) (az (au aF.up bc (aj 1) aB) aO)))) (uG (au aF.up RQ aB (au aF.up bc (aj 1) aB)) (au aF.up Jv (au aF.up bc (aj 1) aB) (bM (az (aj 0) (az (au aF.up bc (aj 1) aB) aO))))))))
theorem vJ:bB ["stroke"] ["stroke"] (aL (top 18)):=⟨rfl,rfl,rfl,by decide +kernel,rfl,by decide +kernel,by decide +kernel⟩
theorem vK(T:Txt mg)(D:bj K mg "stroke_cells" (top 18) ["stroke"]):FnAt P w K mg base "stroke_cells" 1 ["stroke"] (spO K XR0 gZ):=by
 refine D.ok vJ (λvs H Q E h=>jH h λps r e=>match ps,e with|[_],_=>rfl) (λf cdv A outer s H vs Q E hr h=>?_)
 refine⟨_,(aC (cX (bG (dD hr) (aP aK (pv 0) aA (λ_ _=>rfl)) (tH rfl T.Iv) (bN _))
    (aN (bw (gq ["column","stroke"] [none,some 0] rfl (ux rfl T.dm (ao (aP aK (pv 0) aA (λ_ _=>rfl)) (ao (aR bC (aP aK (pv 0) aA (λ_ _=>rfl)) aA) aG))) (λ_ _ _ _ _=>(dO (i:=0) (by decide +kernel) rfl rfl)) (λ_ _ _ _ _=>jV) (λ_ _ _ _ _=>(fB (ao (pvl 0) (ao (aP kE (pvf 1) aA (λ_ _=>rfl)) aG)))))))
    cB)
   (aN (bw (gq ["row","stroke"] [none,some 0] rfl (ux rfl T.dm (ao (aP aK (pv 0) aA (λ_ _=>rfl)) (ao (aR bC (aP aK (pv 0) aA (λ_ _=>rfl)) aA) aG))) (λ_ _ _ _ _=>(dO (i:=0) (by decide +kernel) rfl rfl)) (λ_ _ _ _ _=>jV) (λ_ _ _ _ _=>(fB (ao (aP kE (pvf 1) aA (λ_ _=>rfl)) (ao (pvl 0) aG)))))))),jG (b:=gY) (k:=1) (n:=0) rfl (λps r e=>match ps,e with|[_],e=>⟨rfl,e⟩) h λio H0 F0 hio=>?_⟩
 exact(aQ (dg (bF (au aH.up jD (bz (au aF.up bc (aj 0) aB)) (bz eE)))
    (vQ (jF (zR (az (au aF.up bc (aj 0) aB) (az (au aF.up cA (au aF.up bc (aj 0) aB) aB) aO))) (aM 0) (fG 0) jY (fC (az (aj 0) (az (au aF.up bc (aj 1) aB) aO)))))
    cC)
   (vQ (jF (zR (az (au aF.up bc (aj 0) aB) (az (au aF.up cA (au aF.up bc (aj 0) aB) aB) aO))) (aM 0) (fG 0) jY (fC (az (au aF.up bc (aj 1) aB) (az (aj 0) aO))))))
theorem Aw:bB ["size","stroke"] ["size","stroke"] (aL (top 19)):=⟨rfl,rfl,rfl,by decide +kernel,rfl,by decide +kernel,by decide +kernel⟩
theorem Ax(T:Txt mg)(D:bj K mg "cells_cut" (top 19) ["size","stroke"])(Ng:FnAt P w K mg base "set_of" 2 ["size","cells"] (spM K XR0 tZ))(xY:FnAt P w K mg base "stroke_cells" 1 ["stroke"] (spO K XR0 gZ)):FnAt P w K mg base "cells_cut" 3 ["size","stroke"] (spM K XR0 lu):=by
 refine D.ok Aw (λvs H Q E h=>cj h λps r e=>match ps,e with|[_,_],_=>rfl) (λf cdv A outer s H vs Q E hr h=>?_)
 refine⟨_,(aN (bw (aW Ng (hr.mono (by decide)) rfl (ao (pv 0) (ao (aW xY (hr.mono (by decide)) rfl (ao (pv 1) aG)) aG))))),cg (b:=lr) (k:=2) (n:=0) rfl (λps r e=>match ps,e with|[_,_],e=>⟨rfl,e⟩) h λio H0 F0 hio=>?_⟩
 exact(bL (bM (az (aj 0) (az (cU (eN (az (aj 1) aO))) aO))))
theorem Ay:bB ["thing"] ["thing"] (aL (top 23)):=⟨rfl,rfl,rfl,by decide +kernel,rfl,by decide +kernel,by decide +kernel⟩
theorem Az(T:Txt mg)(D:bj K mg "is_number" (top 23) ["thing"])(sX:FnAt P w K mg base "is_whole" 1 ["thing"] (spM K XR0 iC)):FnAt P w K mg base "is_number" 2 ["thing"] (spM K XR0 jf):=by
 refine D.ok Ay (λvs H Q E h=>cj h λps r e=>match ps,e with|[_],_=>rfl) (λf cdv A outer s H vs Q E hr h=>?_)
 refine⟨_,(aN (bw (uw (aW sX (hr.mono (by decide)) rfl (ao (pv 0) aG)) (uv (kj Ko (pv 0) aA (bN _)))))),cg (b:=lw) (k:=1) (n:=0) rfl (λps r e=>match ps,e with|[_],e=>⟨rfl,e⟩) h λio H0 F0 hio=>?_⟩
 exact(bL (uG (bM (az (aj 0) aO)) (au aF.up RP (aj 0) aB)))
theorem Gu:bB ["size","thing"] ["size","thing"] (aL (top 24)):=⟨rfl,rfl,rfl,by decide +kernel,rfl,by decide +kernel,by decide +kernel⟩
theorem Gv(T:Txt mg)(D:bj K mg "is_deed" (top 24) ["size","thing"])(vy:FnAt P w K mg base "is_number" 2 ["thing"] (spM K XR0 jf))(Ka:FnAt P w K mg base "lies_on" 3 ["size","thing"] (spM K XR0 qI)):FnAt P w K mg base "is_deed" 4 ["size","thing"] (spM K XR0 qJ):=by
 refine D.ok Gu (λvs H Q E h=>cj h λps r e=>match ps,e with|[_,_],_=>rfl) (λf cdv A outer s H vs Q E hr h=>?_)
 refine⟨_,(aC (cX (PW.pt (Bt (pq (lQ (bZ jZ rfl T.eX (by decide +kernel) (ao (pv 1) (ao (wD rfl T.n6 (n:="tuple") (by decide +kernel)) aG))))) (vY (bG (uI hr) (bZ cY rfl T.jn (by decide +kernel) (ao (pv 1) aG)) aA (bN _)))))
    (aN (bw qP))
    cB)
   (aC (cX (PW.pt (Bt (pq (lQ (bZ jZ rfl T.eX (by decide +kernel) (ao (aP aK (pv 1) aA (λ_ _=>rfl)) (ao (wD rfl T.QZ (n:="str") (by decide +kernel)) aG))))) (vY (pq (lQ (aW vy (hr.mono (by decide)) rfl (ao (aP aK (pv 1) aA (λ_ _=>rfl)) aG)))))))
    (aN (bw qP))
    cB)
   (aC (cX (bG (dD hr) (aP aK (pv 1) aA (λ_ _=>rfl)) (tH rfl T.Q0) (bN _))
    (aN (bw (aW Ka (hr.mono (by decide)) rfl (ao (pv 0) (ao (aP aK (pv 1) aA (λ_ _=>rfl)) aG)))))
    cB)
   (aN (bw (uw (kj (dD hr) (aP aK (pv 1) aA (λ_ _=>rfl)) (tH rfl T.Qn) (bN _)) (uv (aW vy (hr.mono (by decide)) rfl (ao (aP aK (pv 1) aA (λ_ _=>rfl)) aG))))))))),cg (b:=mR) (k:=2) (n:=0) rfl (λps r e=>match ps,e with|[_,_],e=>⟨rfl,e⟩) h λio H0 F0 hio=>?_⟩
 exact(aQ (dg (Ck (pC (lU (rW aH.up FP (bJ 1) wI))) (bF (au aH.up Jw (bz (dN jd (bJ 1))) (bz aB))))
    (bL qU)
    cC)
   (aQ (dg (Ck (pC (lU (rW aH.up FP (bz (au aF.up bc (aj 1) aB)) wI))) (pC (lU (bM (az (au aF.up bc (aj 1) aB) aO)))))
    (bL qU)
    cC)
   (aQ (dg (bF (au aH.up jD (bz (au aF.up bc (aj 1) aB)) (bz eE)))
    (bL (bM (az (aj 0) (az (au aF.up bc (aj 1) aB) aO))))
    cC)
   (bL (uG (au aH.up jD (bz (au aF.up bc (aj 1) aB)) (bz eE)) (bM (az (au aF.up bc (aj 1) aB) aO)))))))
theorem yp:bB ["prints","ink","many_inks"] ["prints","ink","many_inks"] (aL (top 25)):=⟨rfl,rfl,rfl,by decide +kernel,rfl,by decide +kernel,by decide +kernel⟩
theorem yq(T:Txt mg)(D:bj K mg "can_follow" (top 25) ["prints","ink","many_inks"]):FnAt P w K mg base "can_follow" 1 ["prints","ink","many_inks"] (spM K XR0 jL):=by
 refine D.ok yp (λvs H Q E h=>cj h λps r e=>match ps,e with|[_,_,_],_=>rfl) (λf cdv A outer s H vs Q E hr h=>?_)
 refine⟨_,(aC (cX (PW.pt (ut (bG zu (pv 2) uq (bN _)) (qm (bG Ko (pv 1) (pv 2) (bN _)))))
    (aN (bw qP))
    cB)
   (aN (bw (S5 (kj (dD hr) (bZ cY rfl T.jn (by decide +kernel) (ao (pv 0) aG)) aA (bN _)) (uv (kj Tf (pv 1) (aP aK (aP aK (pv 0) (Hb Fg aA) (λ_ _=>rfl)) aA (λ_ _=>rfl)) (bN _))))))),cg (b:=jK) (k:=3) (n:=0) rfl (λps r e=>match ps,e with|[_,_,_],e=>⟨rfl,e⟩) h λio H0 F0 hio=>?_⟩
 exact(aQ (dg (uH (bF (au aH.up Fz (bJ 2) uF)) (bF (au aF.up RP (aj 1) (aj 2))))
    (bL qU)
    cC)
   (bL (TQ (au aH.up jD (bz (dN jd (bJ 0))) (bz aB)) (au aF.up UG (aj 1) (au aF.up bc (au aF.up bc (aj 0) (FQ aB)) aB)))))
theorem dI:bB ["size","plan","many_inks","woods","prints","place","thing","wood"] ["size","plan","many_inks"] (aL (top 26)):=⟨rfl,rfl,rfl,by decide +kernel,rfl,by decide +kernel,by decide +kernel⟩
theorem uW(T:Txt mg)(D:bj K mg "replayed_with" (top 26) ["size","plan","many_inks"])(Kc:FnAt P w K mg base "is_deed" 4 ["size","thing"] (spM K XR0 qJ))(Nh:FnAt P w K mg base "all_of" 1 ["size"] (spM K XR0 tY))(Eo:FnAt P w K mg base "cells_cut" 3 ["size","stroke"] (spM K XR0 lu))(Bh:FnAt P w K mg base "can_follow" 1 ["prints","ink","many_inks"] (spM K XR0 jL)):FnAt P w K mg base "replayed_with" 5 ["size","plan","many_inks"] (spO K XR0 gA):=by
 refine D.ok dI (λvs H Q E h=>jH h λps r e=>match ps,e with|[_,_,_],_=>rfl) (λf cdv A outer s H vs Q E hr h=>?_)
 refine⟨_,(aC (aY (i:=3) dI.nd rfl (Or.inl rfl) wF)
   (aC (aY (i:=4) dI.nd rfl (Or.inl rfl) (gM aG))
   (aC (dw Zaq rfl (qt rfl T.gK (ao (pv 1) aG)) (nj (n:=2) rfl (cG (bH (i:=5) dI.nd rfl (Or.inl rfl)) (cG (bH (i:=6) dI.nd rfl (Or.inl rfl)) jy)))
    (aC (cX (pq (lQ (aW Kc (hr.mono (by decide)) rfl (ao (pv 0) (ao (pv 6) aG)))))
     (aN Bv)
     cB)
    (aC (aY (i:=7) dI.nd rfl (Or.inl rfl) (uN hr (pv 3) (aP aK (pv 6) aA (λ_ _=>rfl)) (aW Nh (hr.mono (by decide)) rfl (ao (pv 0) aG)) ⟨rfl,rfl,rfl,rfl⟩))
    (aN (cX (bG (dD hr) (aP aK (pv 6) aA (λ_ _=>rfl)) (tH rfl T.Q0) (bN _))
     (aN (vP (tD hr) (pv 3) (aP aK (pv 6) aA (λ_ _=>rfl)) (aR zr (pv 7) (Hb Rj (aW Eo (hr.mono (by decide)) rfl (ao (pv 0) (ao (aP aK (pv 6) aA (λ_ _=>rfl)) aG))))) rfl))
     (aN (cX (lQ (aW Bh (hr.mono (by decide)) rfl (ao (pv 4) (ao (aP aK (pv 6) aA (λ_ _=>rfl)) (ao (pv 2) aG)))))
      (aN (fM (mz Zax Zav PySem.F.type_list_append dH (pv 4) (ao (fB (ao (aP aK (pv 6) aA (λ_ _=>rfl)) (ao (pv 7) aG))) aG))))
      (aN Bv))))))))
   (aN (bw (pv 4)))))),jG (b:=gw) (k:=3) (n:=5) rfl (λps r e=>match ps,e with|[_,_,_],e=>⟨rfl,e⟩) h λio H0 F0 hio=>?_⟩
 exact(aQ (gr (i:=3) trivial zY)
   (aQ (gr (i:=4) trivial (gP aO))
   (aQ (dC (qx (az (aj 1) aO)) (nA (cH (aM 5) (cH (aM 6) jC)))
    (aQ (dg (pC (lU (bM (az (aj 0) (az (aj 6) aO)))))
     CQ
     cC)
    (aQ (bu (tV (jP 3) (au aF.up bc (aj 6) aB) (bM (az (aj 0) aO))) (aM 7))
    (dg (bF (au aH.up jD (bz (au aF.up bc (aj 6) aB)) (bz eE)))
     (vR (au aF.up Ho (aj 7) (R4 (bM (az (aj 0) (az (au aF.up bc (aj 6) aB) aO))))) (au aF.up bc (aj 6) aB))
     (dg (lU (K4 (wK (bJ 4) (wK (bz (au aF.up bc (aj 6) aB)) (wK (bJ 2) Oj)))))
      (jt (fC (az (au aF.up bc (aj 6) aB) (az (aj 7) aO))))
      CQ)))))
   (jX 4 hio))))
theorem Ba:bB ["ink","colour","under","over"] ["ink","colour"] (aL (top 29)):=⟨rfl,rfl,rfl,by decide +kernel,rfl,by decide +kernel,by decide +kernel⟩
theorem Ql(T:Txt mg)(D:bj K mg "laid" (top 29) ["ink","colour"]):FnAt P w K mg base "laid" 1 ["ink","colour"] (spM K XR0 Ag):=by
 refine D.ok Ba (λvs H Q E h=>cj h λps r e=>match ps,e with|[_,_],_=>rfl) (λf cdv A outer s H vs Q E hr h=>?_)
 refine⟨_,(aC (cX (bG (dD hr) (aP aK (pv 0) aA (λ_ _=>rfl)) (tH rfl T.Qm) (bN _))
    (aN (bw (aP aK (pv 0) aA (λ_ _=>rfl))))
    cB)
   (aC (dw Zaq rfl (iJ (aP aK (pv 0) aA (λ_ _=>rfl))) (nj (n:=2) rfl (cG (bH (i:=2) Ba.nd rfl (Or.inl rfl)) (cG (bH (i:=3) Ba.nd rfl (Or.inl rfl)) jy)))
    (aN (cX (bG (dD hr) (pv 2) (pv 1) (bN _))
     (aN (bw (pv 3)))
     cB)))
   (aN (bw (pv 1))))),cg (b:=Af) (k:=2) (n:=2) rfl (λps r e=>match ps,e with|[_,_],e=>⟨rfl,e⟩) h λio H0 F0 hio=>?_⟩
 exact(aQ (dg (bF (au aH.up jD (bz (au aF.up bc (aj 0) aB)) (bz eE)))
    (bL (au aF.up bc (aj 0) aB))
    cC)
   (aQ (dC (jE (au aF.up bc (aj 0) aB)) (nA (cH (aM 2) (cH (aM 3) jC)))
    (dg (bF (au aH.up jD (bJ 2) (bJ 1)))
     (bL (aj 3))
     cC))
   (bL (aj 1))))
theorem jM:bB ["bench","stack","colour","number"] ["bench","stack"] (aL (top 30)):=⟨rfl,rfl,rfl,by decide +kernel,rfl,by decide +kernel,by decide +kernel⟩
theorem Bb(T:Txt mg)(D:bj K mg "colour_of" (top 30) ["bench","stack"])(SM:FnAt P w K mg base "laid" 1 ["ink","colour"] (spM K XR0 Ag)):FnAt P w K mg base "colour_of" 2 ["bench","stack"] (spM K XR0 lF):=by
 refine D.ok jM (λvs H Q E h=>cj h λps r e=>match ps,e with|[_,_],_=>rfl) (λf cdv A outer s H vs Q E hr h=>?_)
 refine⟨_,(aC (aY (i:=2) jM.nd rfl (Or.inl rfl) (aP aK (pv 0) aA (λ_ _=>rfl)))
   (aC (dw Zaq rfl (iJ (pv 1)) (bH (i:=3) jM.nd rfl (Or.inl rfl))
    (aN (aY (i:=2) jM.nd rfl (Or.inl rfl) (aW SM (hr.mono (by decide)) rfl (ao (aP aK (aP aK (pv 0) aA (λ_ _=>rfl)) (pv 3) (λ_ _=>rfl)) (ao (pv 2) aG))))))
   (aN (bw (pv 2))))),cg (b:=lE) (k:=2) (n:=2) rfl (λps r e=>match ps,e with|[_,_],e=>⟨rfl,e⟩) h λio H0 F0 hio=>?_⟩
 exact(aQ (bu (au aF.up bc (aj 0) aB) (aM 2))
   (aQ (dC (jE (aj 1)) (aM 3)
    (bu (bM (az (au aF.up bc (au aF.up bc (aj 0) aB) (aj 3)) (az (aj 2) aO))) (aM 2)))
   (bL (aj 2))))
theorem Ef:bB ["size","states","cell"] ["size","states","cell"] (aL (top 32)):=⟨rfl,rfl,rfl,by decide +kernel,rfl,by decide +kernel,by decide +kernel⟩
theorem Eg(T:Txt mg)(D:bj K mg "stack_at" (top 32) ["size","states","cell"])(GD:FnAt P w K mg base "has_cell" 2 ["size","some","cell"] (spM K XR0 nH)):FnAt P w K mg base "stack_at" 3 ["size","states","cell"] (spM K XR0 nP):=by
 refine D.ok Ef (λvs H Q E h=>cj h λps r e=>match ps,e with|[_,_,_],_=>rfl) (λf cdv A outer s H vs Q E hr h=>?_)
 refine⟨_,(aN (bw (fu iI rfl T.n6 (by decide +kernel) (ao (gq ["number","state","size","cell"] [none,none,some 0,some 2] rfl (qt rfl T.gK (ao (pv 1) aG)) (λ_ _ _ _ _=>(Od (n:=2) rfl (cG (dO (i:=0) (by decide +kernel) rfl rfl) (cG (dO (i:=1) (by decide +kernel) rfl rfl) jy)))) (λ_ _ _ _ _=>(Kw (lQ (aW GD (hr.mono (by decide)) (glc rfl) (ao (pvf 2) (ao (pvl 1) (ao (pvf 3) aG))))))) (λ_ _ _ _ _=>(pvl 0))) aG)))),cg (b:=nO) (k:=3) (n:=0) rfl (λps r e=>match ps,e with|[_,_,_],e=>⟨rfl,e⟩) h λio H0 F0 hio=>?_⟩
 exact(bL (dN Ht (jB (jF (qx (az (aj 1) aO)) (nA (cH (aM 0) (cH (aM 1) jC))) (RV (Cz (fG 0) (Cz (fG 1) Ow))) (lU (bM (az (aj 2) (az (aj 1) (az (aj 3) aO))))) (aj 0)))))
theorem xV:bB ["bench","size","states","row"] ["bench","size","states","row"] (aL (top 33)):=⟨rfl,rfl,rfl,by decide +kernel,rfl,by decide +kernel,by decide +kernel⟩
theorem xW(T:Txt mg)(D:bj K mg "pressed_row" (top 33) ["bench","size","states","row"])(Ep:FnAt P w K mg base "colour_of" 2 ["bench","stack"] (spM K XR0 lF))(GF:FnAt P w K mg base "stack_at" 3 ["size","states","cell"] (spM K XR0 nP)):FnAt P w K mg base "pressed_row" 4 ["bench","size","states","row"] (spO K XR0 iQ):=by
 refine D.ok xV (λvs H Q E h=>jH h λps r e=>match ps,e with|[_,_,_,_],_=>rfl) (λf cdv A outer s H vs Q E hr h=>?_)
 refine⟨_,(aN (bw (gq ["column","bench","size","states","row"] [none,some 0,some 1,some 2,some 3] rfl (cM rfl T.dm (ao (aP aK (pv 1) aA (λ_ _=>rfl)) aG)) (λ_ _ _ _ _=>(dO (i:=0) (by decide +kernel) rfl rfl)) (λ_ _ _ _ _=>jV) (λ_ _ _ _ _=>(aW Ep (hr.mono (by decide)) (glc rfl) (ao (pvf 1) (ao (aW GF (hr.mono (by decide)) (glc rfl) (ao (pvf 2) (ao (pvf 3) (ao (fB (ao (pvl 0) (ao (pvf 4) aG))) aG)))) aG))))))),jG (b:=iM) (k:=4) (n:=0) rfl (λps r e=>match ps,e with|[_,_,_,_],e=>⟨rfl,e⟩) h λio H0 F0 hio=>?_⟩
 exact(vQ (jF (dU (az (au aF.up bc (aj 1) aB) aO)) (aM 0) (fG 0) jY (bM (az (aj 1) (az (bM (az (aj 2) (az (aj 3) (az (fC (az (aj 0) (az (aj 4) aO))) aO)))) aO)))))
theorem Gw:bB ["bench","size","states"] ["bench","size","states"] (aL (top 34)):=⟨rfl,rfl,rfl,by decide +kernel,rfl,by decide +kernel,by decide +kernel⟩
theorem Gx(T:Txt mg)(D:bj K mg "pressed" (top 34) ["bench","size","states"])(yr:FnAt P w K mg base "pressed_row" 4 ["bench","size","states","row"] (spO K XR0 iQ)):FnAt P w K mg base "pressed" 5 ["bench","size","states"] (spD K XR0 qL):=by
 refine D.ok Gw (λvs H Q E h=>HN h λps r e=>match ps,e with|[_,_,_],_=>rfl) (λf cdv A outer s H vs Q E hr h=>?_)
 refine⟨_,(aN (bw (gq ["row","bench","size","states"] [none,some 0,some 1,some 2] rfl (cM rfl T.dm (ao (aP aK (pv 1) aA (λ_ _=>rfl)) aG)) (λ_ _ _ _ _=>(dO (i:=0) (by decide +kernel) rfl rfl)) (λ_ _ _ _ _=>jV) (λ_ _ _ _ _=>(aW yr (hr.mono (by decide)) (glc rfl) (ao (pvf 1) (ao (pvf 2) (ao (pvf 3) (ao (pvl 0) aG))))))))),HJ (b:=qK) (k:=3) (n:=0) rfl (λps r e=>match ps,e with|[_,_,_],e=>⟨rfl,e⟩) h λio H0 F0 hio=>?_⟩
 exact(O6 (HF (dU (az (au aF.up bc (aj 1) aB) aO)) (aM 0) (fG 0) jY (QR (eN (az (aj 1) (az (aj 2) (az (aj 3) (az (aj 0) aO))))))))
theorem lO:bB ["many_inks","prints","sets"] ["many_inks","prints"] (aL (top 36)):=⟨rfl,rfl,rfl,by decide +kernel,rfl,by decide +kernel,by decide +kernel⟩
theorem uo(T:Txt mg)(D:bj K mg "states_printed" (top 36) ["many_inks","prints"]):FnAt P w K mg base "states_printed" 1 ["many_inks","prints"] (spO K XR0 fU):=by
 refine D.ok lO (λvs H Q E h=>jH h λps r e=>match ps,e with|[_,_],_=>rfl) (λf cdv A outer s H vs Q E hr h=>?_)
 refine⟨_,(aC (aY (i:=2) lO.nd rfl (Or.inr rfl) (fu (xm hr rfl) rfl T.Nb (by decide +kernel) (ao (pv 1) aG)))
   (aN (bw (gq ["number","sets"] [none,some 2] rfl (cM rfl T.dm (ao (pv 0) aG)) (λ_ _ _ _ _=>(dO (i:=0) (by decide +kernel) rfl rfl)) (λ_ _ _ _ _=>jV) (λ_ _ _ _ _=>(FZ hr (pvf 1) (pvl 0) aA ⟨rfl,rfl,rfl,rfl⟩)))))),jG (b:=fQ) (k:=2) (n:=1) rfl (λps r e=>match ps,e with|[_,_],e=>⟨rfl,e⟩) h λio H0 F0 hio=>?_⟩
 exact(aQ (bu (cU (uL (O2 λ_ _ _=>Hw) (gb 1))) (aM 2))
   (vQ (jF (dU (az (aj 0) aO)) (aM 0) (fG 0) jY (tV (jP 1) (aj 0) aB))))
theorem eZ:bB ["picture","wished","row","colours","column","colour"] ["picture","wished"] (aL (top 37)):=⟨rfl,rfl,rfl,by decide +kernel,rfl,by decide +kernel,by decide +kernel⟩
theorem vL(T:Txt mg)(D:bj K mg "first_unlike" (top 37) ["picture","wished"]):FnAt P w K mg base "first_unlike" 1 ["picture","wished"] (spM K XR0 ig):=by
 refine D.ok eZ (λvs H Q E h=>cj h λps r e=>match ps,e with|[_,_],_=>rfl) (λf cdv A outer s H vs Q E hr h=>?_)
 refine⟨_,(aC (dw Zaq rfl (qt rfl T.gK (ao (pv 0) aG)) (nj (n:=2) rfl (cG (bH (i:=2) eZ.nd rfl (Or.inl rfl)) (cG (bH (i:=3) eZ.nd rfl (Or.inl rfl)) jy)))
    (aN (dw Zaq rfl (qt rfl T.gK (ao (pv 3) aG)) (nj (n:=2) rfl (cG (bH (i:=4) eZ.nd rfl (Or.inl rfl)) (cG (bH (i:=5) eZ.nd rfl (Or.inl rfl)) jy)))
     (aN (cX (bG (uI hr) (pv 5) (aP aK (aP aK (pv 1) (pv 2) (λ_ _=>rfl)) (pv 4) (λ_ _=>rfl)) (bN _))
      (aN (bw (fB (ao (pv 4) (ao (pv 2) (ao (pv 5) (ao (aP aK (aP aK (pv 1) (pv 2) (λ_ _=>rfl)) (pv 4) (λ_ _=>rfl)) aG)))))))
      cB)))))
   (aN (bw uq))),cg (b:=ie) (k:=2) (n:=4) rfl (λps r e=>match ps,e with|[_,_],e=>⟨rfl,e⟩) h λio H0 F0 hio=>?_⟩
 exact(aQ (dC (qx (az (aj 0) aO)) (nA (cH (aM 2) (cH (aM 3) jC)))
    (dC (qx (az (aj 3) aO)) (nA (cH (aM 4) (cH (aM 5) jC)))
     (dg (bF (au aH.up Jw (bJ 5) (bz (au aF.up bc (au aF.up bc (aj 1) (aj 2)) (aj 4)))))
      (bL (fC (az (aj 4) (az (aj 2) (az (aj 5) (az (au aF.up bc (au aF.up bc (aj 1) (aj 2)) (aj 4)) aO))))))
      cC)))
   (bL uF))
theorem jN:bB ["bench","picture","plan","size","many_inks","prints"] ["bench","picture","plan"] (aL (top 38)):=⟨rfl,rfl,rfl,by decide +kernel,rfl,by decide +kernel,by decide +kernel⟩
theorem Bc(T:Txt mg)(D:bj K mg "unlike_at" (top 38) ["bench","picture","plan"])(Kd:FnAt P w K mg base "size_of" 1 ["picture"] (spM K XR0 qG))(vM:FnAt P w K mg base "replayed_with" 5 ["size","plan","many_inks"] (spO K XR0 gA))(xZ:FnAt P w K mg base "first_unlike" 1 ["picture","wished"] (spM K XR0 ig))(Ke:FnAt P w K mg base "pressed" 5 ["bench","size","states"] (spD K XR0 qL))(uX:FnAt P w K mg base "states_printed" 1 ["many_inks","prints"] (spO K XR0 fU)):FnAt P w K mg base "unlike_at" 6 ["bench","picture","plan"] (spM K XR0 lH):=by
 refine D.ok jN (λvs H Q E h=>cj h λps r e=>match ps,e with|[_,_,_],_=>rfl) (λf cdv A outer s H vs Q E hr h=>?_)
 refine⟨_,(aC (aY (i:=3) jN.nd rfl (Or.inl rfl) (aW Kd (hr.mono (by decide)) rfl (ao (pv 1) aG)))
   (aC (aY (i:=4) jN.nd rfl (Or.inl rfl) (bZ cY rfl T.jn (by decide +kernel) (ao (aP aK (pv 0) aA (λ_ _=>rfl)) aG)))
   (aC (aY (i:=5) jN.nd rfl (Or.inl rfl) (aW vM (hr.mono (by decide)) rfl (ao (pv 3) (ao (pv 2) (ao (pv 4) aG)))))
   (aN (bw (aW xZ (hr.mono (by decide)) rfl (ao (aW Ke (hr.mono (by decide)) rfl (ao (pv 0) (ao (pv 3) (ao (aW uX (hr.mono (by decide)) rfl (ao (pv 4) (ao (pv 5) aG))) aG)))) (ao (pv 1) aG)))))))),cg (b:=lG) (k:=3) (n:=3) rfl (λps r e=>match ps,e with|[_,_,_],e=>⟨rfl,e⟩) h λio H0 F0 hio=>?_⟩
 exact(aQ (bu (bM (az (aj 1) aO)) (aM 3))
   (aQ (bu (dN jd (bz (au aF.up bc (aj 0) aB))) (aM 4))
   (aQ (bu (cU (eN (az (aj 3) (az (aj 2) (az (aj 4) aO))))) (aM 5))
   (bL (bM (az (Ma (Hz (az (aj 0) (az (aj 3) (az (cU (eN (az (aj 4) (az (aj 5) aO)))) aO))))) (az (aj 1) aO)))))))
theorem Bd:bB ["_law_script","_law_k"] ["_law_script","_law_k"] (aL (top 40)):=⟨rfl,rfl,rfl,by decide +kernel,rfl,by decide +kernel,by decide +kernel⟩
theorem Be(T:Txt mg)(D:bj K mg "_law_cell_at" (top 40) ["_law_script","_law_k"]):FnAt P w K mg base "_law_cell_at" 1 ["_law_script","_law_k"] (spM K XR0 bQ):=by
 refine D.ok Bd (λvs H Q E h=>cj h λps r e=>match ps,e with|[_,_],_=>rfl) (λf cdv A outer s H vs Q E hr h=>?_)
 refine⟨_,(aC (cX (bG uJ (pv 1) (bZ cY rfl T.jn (by decide +kernel) (ao (pv 0) aG)) (bN _))
    (aN (bw (aP aK (pv 0) (pv 1) (λ_ _=>rfl))))
    cB)
   (aN (bw aA))),cg (b:=j5) (k:=2) (n:=0) rfl (λps r e=>match ps,e with|[_,_],e=>⟨rfl,e⟩) h λio H0 F0 hio=>?_⟩
 exact(aQ (dg (bF (au aF.up Jv (aj 1) (dN jd (bJ 0))))
    (bL (au aF.up bc (aj 0) (aj 1)))
    cC)
   (bL aB))
theorem qi:bB ["_law_cell","_law_turn","_law_k"] ["_law_cell","_law_turn"] (aL (top 41)):=⟨rfl,rfl,rfl,by decide +kernel,rfl,by decide +kernel,by decide +kernel⟩
theorem Eh(T:Txt mg)(D:bj K mg "_law_window" (top 41) ["_law_cell","_law_turn"]):FnAt P w K mg base "_law_window" 1 ["_law_cell","_law_turn"] (spM K XR0 cW):=by
 refine D.ok qi (λvs H Q E h=>cj h λps r e=>match ps,e with|[_,_],_=>rfl) (λf cdv A outer s H vs Q E hr h=>?_)
 refine⟨_,(aC (cX (bG uJ (pv 0) (aR uy aA aA) (bN _))
    (aN (bw (pv 0)))
    cB)
   (aC (dw Zaq rfl (cM rfl T.dm (ao (aR dM aA (pv 1)) aG)) (bH (i:=2) qi.nd rfl (Or.inl rfl))
    (aN (aY (i:=0) qi.nd rfl (Or.inl rfl) (aR LR (pv 0) (aR uy aA aA)))))
   (aN (bw (aR bC (aR uy aA aA) (pv 0)))))),cg (b:=iR) (k:=2) (n:=1) rfl (λps r e=>match ps,e with|[_,_],e=>⟨rfl,e⟩) h λio H0 F0 hio=>?_⟩
 exact(aQ (dg (bF (au aF.up Jv (aj 0) (au aF.up yR aB aB)))
    (bL (aj 0))
    cC)
   (aQ (dC (dU (az (au aF.up iy aB (aj 1)) aO)) (aM 2)
    (bu (au aF.up R5 (aj 0) (au aF.up yR aB aB)) (aM 0)))
   (bL (au aF.up cA (au aF.up yR aB aB) (aj 0)))))
theorem dW:bB ["_law_cell","_law_many","_law_found","_law_number","_law_k"] ["_law_cell","_law_many"] (aL (top 42)):=⟨rfl,rfl,rfl,by decide +kernel,rfl,by decide +kernel,by decide +kernel⟩
theorem Ei(T:Txt mg)(D:bj K mg "_law_stream" (top 42) ["_law_cell","_law_many"]):FnAt P w K mg base "_law_stream" 1 ["_law_cell","_law_many"] (spO K XR0 bR):=by
 refine D.ok dW (λvs H Q E h=>jH h λps r e=>match ps,e with|[_,_],_=>rfl) (λf cdv A outer s H vs Q E hr h=>?_)
 refine⟨_,(aC (aY (i:=2) dW.nd rfl (Or.inl rfl) (gM aG))
   (aC (cX (bG Ko (pv 0) (aR uy aA aA) (bN _))
    (aC (aY (i:=3) dW.nd rfl (Or.inl rfl) (aR rR (pv 0) (aR uy aA aA)))
    (aC (dw Zaq rfl (cM rfl T.dm (ao (pv 1) aG)) (bH (i:=4) dW.nd rfl (Or.inl rfl))
     (aC (fM (mz Zax Zav PySem.F.type_list_append dH (pv 2) (ao (aR bO (pv 3) aA) aG)))
     (aN (aY (i:=3) dW.nd rfl (Or.inl rfl) (aR sZ (pv 3) aA)))))
    (aN (bw (pv 2)))))
    cB)
   (aC (aY (i:=3) dW.nd rfl (Or.inl rfl) (aR bC (aR bO (pv 0) aA) aA))
   (aC (dw Zaq rfl (cM rfl T.dm (ao (pv 1) aG)) (bH (i:=4) dW.nd rfl (Or.inl rfl))
    (aC (aY (i:=3) dW.nd rfl (Or.inl rfl) (aR bC (aR bC (aR bC (aR dM (pv 3) (pv 3)) (aR dM aA (pv 3))) (aR dM aA (pv 4))) aA))
    (aC (aY (i:=3) dW.nd rfl (Or.inl rfl) (aR bO (pv 3) aA))
    (aN (fM (mz Zax Zav PySem.F.type_list_append dH (pv 2) (ao (aR sZ (pv 3) aA) aG)))))))
   (aN (bw (pv 2))))))),jG (b:=lY) (k:=2) (n:=3) rfl (λps r e=>match ps,e with|[_,_],e=>⟨rfl,e⟩) h λio H0 F0 hio=>?_⟩
 exact(aQ (gr (i:=2) trivial (gP aO))
   (aQ (dg (bF (au aF.up RP (aj 0) (au aF.up yR aB aB)))
    (aQ (bu (au aF.up wQ (aj 0) (au aF.up yR aB aB)) (aM 3))
    (aQ (dC (dU (az (aj 1) aO)) (aM 4)
     (aQ (jt (au aF.up cD (aj 3) aB))
     (bu (au aF.up Cv (aj 3) aB) (aM 3))))
    (jX 2 hio)))
    cC)
   (aQ (bu (au aF.up cA (au aF.up cD (aj 0) aB) aB) (aM 3))
   (aQ (dC (dU (az (aj 1) aO)) (aM 4)
    (aQ (bu (au aF.up cA (au aF.up cA (au aF.up cA (au aF.up iy (aj 3) (aj 3)) (au aF.up iy aB (aj 3))) (au aF.up iy aB (aj 4))) aB) (aM 3))
    (aQ (bu (au aF.up cD (aj 3) aB) (aM 3))
    (jt (au aF.up Cv (aj 3) aB)))))
   (jX 2 hio)))))
theorem eV:bB ["_law_cell","_law_many","_law_letters","_law_some","_law_base","_law_at","_law_words_here","_law_k","_law_number","_law_two"] ["_law_cell","_law_many"] (aL (top 43)):=⟨rfl,rfl,rfl,by decide +kernel,rfl,by decide +kernel,by decide +kernel⟩
theorem Gy(T:Txt mg)(D:bj K mg "_law_words" (top 43) ["_law_cell","_law_many"])(cJ:FnAt P w K mg base "_law_stream" 1 ["_law_cell","_law_many"] (spO K XR0 bR)):FnAt P w K mg base "_law_words" 2 ["_law_cell","_law_many"] (spO K XR0 dF):=by
 refine D.ok eV (λvs H Q E h=>jH h λps r e=>match ps,e with|[_,_],_=>rfl) (λf cdv A outer s H vs Q E hr h=>?_)
 refine⟨_,(aC (aY (i:=2) eV.nd rfl (Or.inr rfl) jR)
   (aC (aY (i:=3) eV.nd rfl (Or.inl rfl) (aW cJ (hr.mono (by decide)) rfl (ao (pv 0) (ao aA aG))))
   (aC (aY (i:=4) eV.nd rfl (Or.inl rfl) (mz PySem.F.plainAttrs_str PySem.F.slot_str_join PySem.F.type_str_join Oc jR (ao (gq ["_law_one","_law_letters"] [none,some 2] rfl (iJ (jT zE (pv 3) qp (gO (aR bO (aP aK (pv 3) aA (λ_ _=>rfl)) aA)))) (λ_ _ _ _ _=>(dO (i:=0) (by decide +kernel) rfl rfl)) (λ_ _ _ _ _=>jV) (λ_ _ _ _ _=>(aP kE (pvf 1) (aR bO (pvl 0) aA) (λ_ _=>rfl)))) aG)))
   (aC (aY (i:=5) eV.nd rfl (Or.inl rfl) (aR bO (aP aK (pv 3) aA (λ_ _=>rfl)) (aR bC (bZ cY rfl T.jn (by decide +kernel) (ao (pv 4) aG)) aA)))
   (aC (aY (i:=6) eV.nd rfl (Or.inl rfl) (gM aG))
   (aC (dw Zaq rfl (cM rfl T.dm (ao (pv 1) aG)) (bH (i:=7) eV.nd rfl (Or.inl rfl))
    (aC (aY (i:=8) eV.nd rfl (Or.inl rfl) (aR bO (aR bC (aP aK (pv 3) aA (λ_ _=>rfl)) (aR dM (aR bC aA (aR bO (aP aK (pv 3) aA (λ_ _=>rfl)) aA)) (pv 7))) aA))
    (aC (aY (i:=9) eV.nd rfl (Or.inl rfl) (aR bC (aP aK (pv 2) (aR bO (aR dM (pv 8) aA) aA) (λ_ _=>rfl)) (aP aK (pv 2) (pv 8) (λ_ _=>rfl))))
    (aN (cX (bG (dD hr) (aR bO (aP aK (pv 3) aA (λ_ _=>rfl)) aA) aA (bN _))
     (aN (fM (mz Zax Zav PySem.F.type_list_append dH (pv 6) (ao (aR bC (aR bC (jT Fw (pv 4) qp (gO (pv 5))) (pv 9)) (jT Fw (pv 4) (gO (pv 5)) qp)) aG))))
     (aN (cX (bG (dD hr) (aR bO (aP aK (pv 3) aA (λ_ _=>rfl)) aA) aA (bN _))
      (aN (fM (mz Zax Zav PySem.F.type_list_append dH (pv 6) (ao (aR bC (pv 9) (jT Fw (pv 4) qp (gO (aR bO (pv 7) (aR bC (bZ cY rfl T.jn (by decide +kernel) (ao (pv 4) aG)) aA))))) aG))))
      (aN (fM (mz Zax Zav PySem.F.type_list_append dH (pv 6) (ao (aR bC (aP aK (pv 2) (pv 8) (λ_ _=>rfl)) (pv 4)) aG)))))))))))
   (aN (bw (pv 6))))))))),jG (b:=nQ) (k:=2) (n:=8) rfl (λps r e=>match ps,e with|[_,_],e=>⟨rfl,e⟩) h λio H0 F0 hio=>?_⟩
 exact(aQ (bu eE (aM 2))
   (aQ (bu (cU (eN (az (aj 0) (az aB aO)))) (aM 3))
   (aQ (bu (Oz eE (jB (jF (jE (cU (FJ (gb 3) qw (gQ (au aF.up cD (au aF.up bc (aj 3) aB) aB))))) (aM 0) (fG 0) jY (au aF.up bc (aj 1) (au aF.up cD (aj 0) aB))))) (aM 4))
   (aQ (bu (au aF.up cD (au aF.up bc (aj 3) aB) (au aF.up cA (dN jd (bJ 4)) aB)) (aM 5))
   (aQ (gr (i:=6) trivial (gP aO))
   (aQ (dC (dU (az (aj 1) aO)) (aM 7)
    (aQ (bu (au aF.up cD (au aF.up cA (au aF.up bc (aj 3) aB) (au aF.up iy (au aF.up cA aB (au aF.up cD (au aF.up bc (aj 3) aB) aB)) (aj 7))) aB) (aM 8))
    (aQ (bu (au aF.up cA (au aF.up bc (aj 2) (au aF.up cD (au aF.up iy (aj 8) aB) aB)) (au aF.up bc (aj 2) (aj 8))) (aM 9))
    (dg (bF (au aH.up jD (bz (au aF.up cD (au aF.up bc (aj 3) aB) aB)) (bz aB)))
     (jt (au aF.up cA (au aF.up cA (FN (aj 4) qw (gQ (aj 5))) (aj 9)) (FN (aj 4) (gQ (aj 5)) qw)))
     (dg (bF (au aH.up jD (bz (au aF.up cD (au aF.up bc (aj 3) aB) aB)) (bz aB)))
      (jt (au aF.up cA (aj 9) (FN (aj 4) qw (gQ (au aF.up cD (aj 7) (au aF.up cA (dN jd (bJ 4)) aB))))))
      (jt (au aF.up cA (au aF.up bc (aj 2) (aj 8)) (aj 4))))))))
   (jX 6 hio)))))))
theorem zj:bB ["_law_pairs","_law_colours","_law_some","_law_under"] ["_law_pairs","_law_colours","_law_some"] (aL (top 44)):=⟨rfl,rfl,rfl,by decide +kernel,rfl,by decide +kernel,by decide +kernel⟩
theorem J5(T:Txt mg)(D:bj K mg "_law_pair" (top 44) ["_law_pairs","_law_colours","_law_some"]):FnAt P w K mg base "_law_pair" 1 ["_law_pairs","_law_colours","_law_some"] (Lp K 0 jg):=by
 refine D.ok zj (λvs H Q E h=>Lr h λps r e=>match ps,e with|[_,_,_],_=>rfl) (λf cdv A outer s H vs Q E hr h=>?_)
 refine⟨_,(aC (aY (i:=3) zj.nd rfl (Or.inl rfl) (aP aK (pv 1) (aR bO (aP aK (pv 2) aA (λ_ _=>rfl)) (bZ cY rfl T.jn (by decide +kernel) (ao (pv 1) aG))) (λ_ _=>rfl)))
   (aN (cX (PW.pt (ut (bG uJ (bZ cY rfl T.jn (by decide +kernel) (ao (pv 0) aG)) aA (bN _)) (qm (bG (yN hr) (pv 3) (gq ["_law_pair_here"] [none] rfl (iJ (pv 0)) (λ_ _ _ _ _=>(dO (i:=0) (by decide +kernel) rfl rfl)) (λ_ _ _ _ _=>jV) (λ_ _ _ _ _=>(aP kE (pvl 0) aA (λ_ _=>rfl)))) (by with_unfolding_all rfl)))))
    (aN (fM (mz Zax Zav PySem.F.type_list_append dH (pv 0) (ao (fB (ao (pv 3) (ao (aP aK (pv 1) (aR bO (aP aK (pv 2) aA (λ_ _=>rfl)) (bZ cY rfl T.jn (by decide +kernel) (ao (pv 1) aG))) (λ_ _=>rfl)) aG))) aG))))
    cB))),Lq (b:=p8) (k:=3) (n:=1) rfl (λps r e=>match ps,e with|[_,_,_],e=>⟨rfl,e⟩) h λioa H0 F0=>?_⟩
 exact(aQ (bu (au aF.up bc (aj 1) (au aF.up cD (au aF.up bc (aj 2) aB) (dN jd (bJ 1)))) (aM 3))
   (dg (uH (bF (au aF.up Jv (dN jd (bJ 0)) aB)) (bF (au aH.up Hq (bJ 3) (bz (cU (CG (Lk (gb 0)) (aM 0) (fG 0) jY (au aF.up bc (aj 0) aB)))))))
    (jt (fC (az (aj 3) (az (au aF.up bc (aj 1) (au aF.up cD (au aF.up bc (aj 2) aB) (dN jd (bJ 1)))) aO))))
    cC))
theorem qj:bB ["_law_name","_law_cells","_law_colours","_law_pairs","_law_k","_law_cell","_law_some"] ["_law_name","_law_cells","_law_colours"] (aL (top 45)):=⟨rfl,rfl,rfl,by decide +kernel,rfl,by decide +kernel,by decide +kernel⟩
theorem M8(T:Txt mg)(D:bj K mg "_law_ink" (top 45) ["_law_name","_law_cells","_law_colours"])(cJ:FnAt P w K mg base "_law_stream" 1 ["_law_cell","_law_many"] (spO K XR0 bR))(Er:FnAt P w K mg base "_law_pair" 1 ["_law_pairs","_law_colours","_law_some"] (Lp K 0 jg)):FnAt P w K mg base "_law_ink" 2 ["_law_name","_law_cells","_law_colours"] (spM K XR0 j6):=by
 refine D.ok qj (λvs H Q E h=>cj h λps r e=>match ps,e with|[_,_,_],_=>rfl) (λf cdv A outer s H vs Q E hr h=>?_)
 refine⟨_,(aC (aY (i:=3) qj.nd rfl (Or.inl rfl) (gM aG))
   (aC (dw Zaq rfl (qt rfl T.gK (ao (pv 1) aG)) (nj (n:=2) rfl (cG (bH (i:=4) qj.nd rfl (Or.inl rfl)) (cG (bH (i:=5) qj.nd rfl (Or.inl rfl)) jy)))
    (aC (aY (i:=6) qj.nd rfl (Or.inl rfl) (aW cJ (hr.mono (by decide)) rfl (ao (aR bC (pv 5) (aR dM aA (pv 4))) (ao aA aG))))
    (aC (cX (PW.pt (ut (bG (dD hr) (pv 4) aA (bN _)) (qm (bG (dD hr) (aR bO (aP aK (pv 6) aA (λ_ _=>rfl)) aA) aA (bN _)))))
     (aN (bw (fB (ao jR (ao (pv 0) (ao (aP aK (pv 2) (aR bO (aP aK (pv 6) aA (λ_ _=>rfl)) (bZ cY rfl T.jn (by decide +kernel) (ao (pv 2) aG))) (λ_ _=>rfl)) aG))))))
     cB)
    (aN (fM (aW Er (hr.mono (by decide)) rfl (ao (pv 3) (ao (pv 2) (ao (pv 6) aG)))))))))
   (aN (bw (fB (ao jR (ao (pv 0) (ao (fu iI rfl T.n6 (by decide +kernel) (ao (pv 3) aG)) aG)))))))),cg (b:=sO) (k:=3) (n:=4) rfl (λps r e=>match ps,e with|[_,_,_],e=>⟨rfl,e⟩) h λio H0 F0 hio=>?_⟩
 exact(aQ (gr (i:=3) trivial (gP aO))
   (aQ (dC (qx (az (aj 1) aO)) (nA (cH (aM 4) (cH (aM 5) jC)))
    (aQ (bu (cU (eN (az (au aF.up cA (aj 5) (au aF.up iy aB (aj 4))) (az aB aO)))) (aM 6))
    (aQ (dg (uH (bF (au aH.up jD (bJ 4) (bz aB))) (bF (au aH.up jD (bz (au aF.up cD (au aF.up bc (aj 6) aB) aB)) (bz aB))))
     (bL (fC (az eE (az (aj 0) (az (au aF.up bc (aj 2) (au aF.up cD (au aF.up bc (aj 6) aB) (dN jd (bJ 2)))) aO)))))
     cC)
    (Ug (Ls (az (aj 2) (az (aj 6) aO)))))))
   (bL (fC (az eE (az (aj 0) (az (dN Ht (gb 3)) aO)))))))
theorem dZ:bB ["_law_script","_law_first","_law_words_here","_law_many","_law_colours","_law_inks","_law_k","_law_name","_law_cells"] ["_law_script"] (aL (top 46)):=⟨rfl,rfl,rfl,by decide +kernel,rfl,by decide +kernel,by decide +kernel⟩
theorem Gz(T:Txt mg)(D:bj K mg "_law_bench" (top 46) ["_law_script"])(cJ:FnAt P w K mg base "_law_stream" 1 ["_law_cell","_law_many"] (spO K XR0 bR))(dJ:FnAt P w K mg base "_law_cell_at" 1 ["_law_script","_law_k"] (spM K XR0 bQ))(oh:FnAt P w K mg base "_law_words" 2 ["_law_cell","_law_many"] (spO K XR0 dF))(GJ:FnAt P w K mg base "_law_ink" 2 ["_law_name","_law_cells","_law_colours"] (spM K XR0 j6)):FnAt P w K mg base "_law_bench" 3 ["_law_script"] (spM K XR0 ik):=by
 refine D.ok dZ (λvs H Q E h=>cj h λps r e=>match ps,e with|[_],_=>rfl) (λf cdv A outer s H vs Q E hr h=>?_)
 refine⟨_,(aC (aY (i:=1) dZ.nd rfl (Or.inl rfl) (aW cJ (hr.mono (by decide)) rfl (ao (aW dJ (hr.mono (by decide)) rfl (ao (pv 0) (ao aA aG))) (ao aA aG))))
   (aC (aY (i:=2) dZ.nd rfl (Or.inl rfl) (aW oh (hr.mono (by decide)) rfl (ao (aW dJ (hr.mono (by decide)) rfl (ao (pv 0) (ao aA aG))) (ao aA aG))))
   (aC (aY (i:=3) dZ.nd rfl (Or.inl rfl) (aR bC aA (aR bO (aP aK (pv 1) aA (λ_ _=>rfl)) aA)))
   (aC (aY (i:=4) dZ.nd rfl (Or.inl rfl) (jT zE (pv 2) qp (gO (aP aK (gM (ao (aR bC aA (aR bO (aP aK (pv 1) aA (λ_ _=>rfl)) aA)) (ao aA aG))) (aR bO (aR sZ (aP aK (pv 1) aA (λ_ _=>rfl)) aA) aA) (λ_ _=>rfl)))))
   (aC (aY (i:=5) dZ.nd rfl (Or.inl rfl) (gM aG))
   (aC (dw Zaq rfl (cM rfl T.dm (ao (pv 3) aG)) (bH (i:=6) dZ.nd rfl (Or.inl rfl))
    (aC (aY (i:=7) dZ.nd rfl (Or.inl rfl) (aP aK (pv 2) (aR bO (aR bC (aP aK (pv 1) aA (λ_ _=>rfl)) (aR dM (aR bC aA (aR bO (aP aK (pv 1) aA (λ_ _=>rfl)) aA)) (pv 6))) aA) (λ_ _=>rfl)))
    (aC (aY (i:=8) dZ.nd rfl (Or.inl rfl) (Jl (pv 0) (gO (aR bC aA (pv 6))) (gO aA) (gO (pv 3))))
    (aC (cX (bG (dD hr) (pv 8) (gM aG) (bN _))
     (aN (aY (i:=8) dZ.nd rfl (Or.inl rfl) (gM (ao (aR bC (aP aK (pv 1) aA (λ_ _=>rfl)) (pv 6)) aG))))
     cB)
    (aN (fM (mz Zax Zav PySem.F.type_list_append dH (pv 5) (ao (aW GJ (hr.mono (by decide)) rfl (ao (pv 7) (ao (pv 8) (ao (pv 4) aG)))) aG))))))))
   (aN (bw (fB (ao (aP aK (pv 4) (aR bO (aP aK (pv 1) aA (λ_ _=>rfl)) (bZ cY rfl T.jn (by decide +kernel) (ao (pv 4) aG))) (λ_ _=>rfl)) (ao (pv 5) aG))))))))))),cg (b:=nU) (k:=1) (n:=8) rfl (λps r e=>match ps,e with|[_],e=>⟨rfl,e⟩) h λio H0 F0 hio=>?_⟩
 exact(aQ (bu (cU (eN (az (bM (az (aj 0) (az aB aO))) (az aB aO)))) (aM 1))
   (aQ (bu (cU (eN (az (bM (az (aj 0) (az aB aO))) (az aB aO)))) (aM 2))
   (aQ (bu (au aF.up cA aB (au aF.up cD (au aF.up bc (aj 1) aB) aB)) (aM 3))
   (aQ (bu (cU (FJ (gb 2) qw (gQ (au aV.up Hr (jB (gP (az (au aF.up cA aB (au aF.up cD (au aF.up bc (aj 1) aB) aB)) (az aB aO)))) (au aF.up cD (au aF.up Cv (au aF.up bc (aj 1) aB) aB) aB))))) (aM 4))
   (aQ (gr (i:=5) trivial (gP aO))
   (aQ (dC (dU (az (aj 3) aO)) (aM 6)
    (aQ (bu (au aF.up bc (aj 2) (au aF.up cD (au aF.up cA (au aF.up bc (aj 1) aB) (au aF.up iy (au aF.up cA aB (au aF.up cD (au aF.up bc (aj 1) aB) aB)) (aj 6))) aB)) (aM 7))
    (aQ (bu (cU (RZ (gb 0) (gQ (au aF.up cA aB (aj 6))) (gQ aB) (gQ (aj 3)))) (aM 8))
    (aQ (dg (bF (au aH.up jD (bJ 8) (bz (cU (gP aO)))))
     (bu (cU (gP (az (au aF.up cA (au aF.up bc (aj 1) aB) (aj 6)) aO))) (aM 8))
     cC)
    (jt (bM (az (aj 7) (az (aj 8) (az (aj 4) aO)))))))))
   (K5 5 hio (bL (fC (az (au aF.up bc (aj 4) (au aF.up cD (au aF.up bc (aj 1) aB) (dN jd (bJ 4)))) (az (aj 5) aO)))))))))))
theorem zm:bB ["_law_cell","_law_some"] ["_law_cell"] (aL (top 47)):=⟨rfl,rfl,rfl,by decide +kernel,rfl,by decide +kernel,by decide +kernel⟩
theorem J6(T:Txt mg)(D:bj K mg "_law_size" (top 47) ["_law_cell"])(cJ:FnAt P w K mg base "_law_stream" 1 ["_law_cell","_law_many"] (spO K XR0 bR))(gn:FnAt P w K mg base "_law_window" 1 ["_law_cell","_law_turn"] (spM K XR0 cW)):FnAt P w K mg base "_law_size" 2 ["_law_cell"] (spM K XR0 jh):=by
 refine D.ok zm (λvs H Q E h=>cj h λps r e=>match ps,e with|[_],_=>rfl) (λf cdv A outer s H vs Q E hr h=>?_)
 refine⟨_,(aC (aY (i:=1) zm.nd rfl (Or.inr rfl) (aW cJ (hr.mono (by decide)) rfl (ao (aR bC (aW gn (hr.mono (by decide)) rfl (ao (pv 0) (ao aA aG))) aA) (ao aA aG))))
   (aN (bw (fu iI rfl T.n6 (by decide +kernel) (ao (gq ["_law_k","_law_some"] [none,some 1] rfl (cM rfl T.dm (ao aA aG)) (λ_ _ _ _ _=>(dO (i:=0) (by decide +kernel) rfl rfl)) (λ_ _ _ _ _=>jV) (λ_ _ _ _ _=>(aP kE (gM (ao aA (ao aA (ao (aR wY aA (aR bO (aP kE (pvf 1) (pvl 0) (λ_ _=>rfl)) aA)) (ao (aR wY aA (aR bO (aP kE (pvf 1) (pvl 0) (λ_ _=>rfl)) aA)) aG))))) (aR bO (aR sZ (aP kE (pvf 1) (aR wY aA (pvl 0)) (λ_ _=>rfl)) aA) aA) (λ_ _=>rfl)))) aG))))),cg (b:=lJ) (k:=1) (n:=1) rfl (λps r e=>match ps,e with|[_],e=>⟨rfl,e⟩) h λio H0 F0 hio=>?_⟩
 exact(aQ (bu (cU (eN (az (au aF.up cA (bM (az (aj 0) (az aB aO))) aB) (az aB aO)))) (aM 1))
   (bL (dN Ht (jB (jF (dU (az aB aO)) (aM 0) (fG 0) jY (au aV.up Hr (jB (gP (az aB (az aB (az (au aF.up cA aB (au aF.up cD (au aF.up bc (aj 1) (aj 0)) aB)) (az (au aF.up cA aB (au aF.up cD (au aF.up bc (aj 1) (aj 0)) aB)) aO)))))) (au aF.up cD (au aF.up Cv (au aF.up bc (aj 1) (au aF.up cA aB (aj 0))) aB) aB)))))))
theorem jm:bB ["_law_size_here","_law_some","_law_way","_law_place","_law_first","_law_last"] ["_law_size_here","_law_some"] (aL (top 48)):=⟨rfl,rfl,rfl,by decide +kernel,rfl,by decide +kernel,by decide +kernel⟩
theorem Ej(T:Txt mg)(D:bj K mg "_law_stroke" (top 48) ["_law_size_here","_law_some"]):FnAt P w K mg base "_law_stroke" 1 ["_law_size_here","_law_some"] (spM K XR0 gk):=by
 refine D.ok jm (λvs H Q E h=>cj h λps r e=>match ps,e with|[_,_],_=>rfl) (λf cdv A outer s H vs Q E hr h=>?_)
 refine⟨_,(aC (aY (i:=2) jm.nd rfl (Or.inl rfl) (aR bO (aP aK (pv 1) aA (λ_ _=>rfl)) aA))
   (aC (aY (i:=3) jm.nd rfl (Or.inl rfl) (aR bO (aP aK (pv 1) aA (λ_ _=>rfl)) (aP aK (pv 0) (aR rR aA (pv 2)) (λ_ _=>rfl))))
   (aC (aY (i:=4) jm.nd rfl (Or.inl rfl) (aR bO (aP aK (pv 1) aA (λ_ _=>rfl)) (aP aK (pv 0) (pv 2) (λ_ _=>rfl))))
   (aC (aY (i:=5) jm.nd rfl (Or.inl rfl) (aR bC (pv 4) (aR bO (aP aK (pv 1) aA (λ_ _=>rfl)) (aR rR (aP aK (pv 0) (pv 2) (λ_ _=>rfl)) (pv 4)))))
   (aN (bw (fB (ao (aP aK (gM (ao jR (ao jR aG))) (pv 2) (λ_ _=>rfl)) (ao (pv 3) (ao (pv 4) (ao (pv 5) aG))))))))))),cg (b:=iT) (k:=2) (n:=4) rfl (λps r e=>match ps,e with|[_,_],e=>⟨rfl,e⟩) h λio H0 F0 hio=>?_⟩
 exact(aQ (bu (au aF.up cD (au aF.up bc (aj 1) aB) aB) (aM 2))
   (aQ (bu (au aF.up cD (au aF.up bc (aj 1) aB) (au aF.up bc (aj 0) (au aF.up wQ aB (aj 2)))) (aM 3))
   (aQ (bu (au aF.up cD (au aF.up bc (aj 1) aB) (au aF.up bc (aj 0) (aj 2))) (aM 4))
   (aQ (bu (au aF.up cA (aj 4) (au aF.up cD (au aF.up bc (aj 1) aB) (au aF.up wQ (au aF.up bc (aj 0) (aj 2)) (aj 4)))) (aM 5))
   (bL (fC (az (au aV.up Hr (jB (gP (az eE (az eE aO)))) (aj 2)) (az (aj 3) (az (aj 4) (az (aj 5) aO))))))))))
theorem fV:bB ["_law_script","_law_size_here","_law_many","_law_plan_here","_law_ink_here","_law_k","_law_cell","_law_some","_law_block"] ["_law_script","_law_size_here","_law_many"] (aL (top 49)):=⟨rfl,rfl,rfl,by decide +kernel,rfl,by decide +kernel,by decide +kernel⟩
theorem J7(T:Txt mg)(D:bj K mg "_law_plan" (top 49) ["_law_script","_law_size_here","_law_many"])(cJ:FnAt P w K mg base "_law_stream" 1 ["_law_cell","_law_many"] (spO K XR0 bR))(gn:FnAt P w K mg base "_law_window" 1 ["_law_cell","_law_turn"] (spM K XR0 cW))(yt:FnAt P w K mg base "_law_stroke" 1 ["_law_size_here","_law_some"] (spM K XR0 gk)):FnAt P w K mg base "_law_plan" 2 ["_law_script","_law_size_here","_law_many"] (spO K XR0 jj):=by
 refine D.ok fV (λvs H Q E h=>jH h λps r e=>match ps,e with|[_,_,_],_=>rfl) (λf cdv A outer s H vs Q E hr h=>?_)
 refine⟨_,(aC (aY (i:=3) fV.nd rfl (Or.inl rfl) (gM aG))
   (aC (aY (i:=4) fV.nd rfl (Or.inl rfl) aA)
   (aC (dw Zaq rfl (qt rfl T.gK (ao (jT zE (pv 0) (gO aA) (gO aA)) aG)) (nj (n:=2) rfl (cG (bH (i:=5) fV.nd rfl (Or.inl rfl)) (cG (bH (i:=6) fV.nd rfl (Or.inl rfl)) jy)))
    (aC (aY (i:=7) fV.nd rfl (Or.inl rfl) (aW cJ (hr.mono (by decide)) rfl (ao (aR bC (aR bC (aW gn (hr.mono (by decide)) rfl (ao (pv 6) (ao aA aG))) aA) (aR dM aA (pv 5))) (ao aA aG))))
    (aC (aY (i:=8) fV.nd rfl (Or.inl rfl) (aP aK (gM (ao aA (ao aA (ao aA (ao (aR bO (aP aK (pv 7) aA (λ_ _=>rfl)) (aR uy aA aA)) aG))))) (aR bO (aP aK (pv 7) aA (λ_ _=>rfl)) aA) (λ_ _=>rfl)))
    (aN (cX (PW.pt (ut (bG (dD hr) (aR bO (aP aK (pv 7) aA (λ_ _=>rfl)) aA) aA (bN _)) (qm (bG uJ (pv 4) (pv 2) (bN _)))))
     (aC (aY (i:=4) fV.nd rfl (Or.inl rfl) (aR bC (pv 4) (aR dM (aR bO (aP aK (pv 7) aA (λ_ _=>rfl)) aA) (aR bO (aR sZ (aP aK (pv 7) aA (λ_ _=>rfl)) aA) (aR rR (pv 2) (pv 4))))))
     (aC (fM (mz Zax Zav PySem.F.type_list_append dH (pv 3) (ao (fB (ao jR (ao (pv 8) (ao (pv 4) aG)))) aG)))
     (aN (aY (i:=4) fV.nd rfl (Or.inl rfl) (aR bC (pv 4) aA)))))
     (aN (fM (mz Zax Zav PySem.F.type_list_append dH (pv 3) (ao (fB (ao jR (ao (pv 8) (ao (aW yt (hr.mono (by decide)) rfl (ao (pv 1) (ao (pv 7) aG))) aG)))) aG)))))))))
   (aN (bw (pv 3)))))),jG (b:=lK) (k:=3) (n:=6) rfl (λps r e=>match ps,e with|[_,_,_],e=>⟨rfl,e⟩) h λio H0 F0 hio=>?_⟩
 exact(aQ (gr (i:=3) trivial (gP aO))
   (aQ (bu aB (aM 4))
   (aQ (dC (qx (az (cU (FJ (gb 0) (gQ aB) (gQ aB))) aO)) (nA (cH (aM 5) (cH (aM 6) jC)))
    (aQ (bu (cU (eN (az (au aF.up cA (au aF.up cA (bM (az (aj 6) (az aB aO))) aB) (au aF.up iy aB (aj 5))) (az aB aO)))) (aM 7))
    (aQ (bu (au aV.up Hr (jB (gP (az aB (az aB (az aB (az (au aF.up cD (au aF.up bc (aj 7) aB) (au aF.up yR aB aB)) aO)))))) (au aF.up cD (au aF.up bc (aj 7) aB) aB)) (aM 8))
    (dg (uH (bF (au aH.up jD (bz (au aF.up cD (au aF.up bc (aj 7) aB) aB)) (bz aB))) (bF (au aF.up Jv (aj 4) (aj 2))))
     (aQ (bu (au aF.up cA (aj 4) (au aF.up iy (au aF.up cD (au aF.up bc (aj 7) aB) aB) (au aF.up cD (au aF.up Cv (au aF.up bc (aj 7) aB) aB) (au aF.up wQ (aj 2) (aj 4))))) (aM 4))
     (aQ (jt (fC (az eE (az (aj 8) (az (aj 4) aO)))))
     (bu (au aF.up cA (aj 4) aB) (aM 4))))
     (jt (fC (az eE (az (aj 8) (az (bM (az (aj 1) (az (aj 7) aO))) aO)))))))))
   (jX 3 hio))))
theorem fW:bB ["_law_size_here","_law_stroke_here","_law_way","_law_place","_law_first","_law_last","_law_found","_law_k"] ["_law_size_here","_law_stroke_here"] (aL (top 50)):=⟨rfl,rfl,rfl,by decide +kernel,rfl,by decide +kernel,by decide +kernel⟩
theorem J8(T:Txt mg)(D:bj K mg "_law_mask" (top 50) ["_law_size_here","_law_stroke_here"]):FnAt P w K mg base "_law_mask" 1 ["_law_size_here","_law_stroke_here"] (spM K XR0 lM):=by
 refine D.ok fW (λvs H Q E h=>cj h λps r e=>match ps,e with|[_,_],_=>rfl) (λf cdv A outer s H vs Q E hr h=>?_)
 refine⟨_,(aC (zq (pv 1) (nj (n:=4) rfl (cG (bH (i:=2) fW.nd rfl (Or.inl rfl)) (cG (bH (i:=3) fW.nd rfl (Or.inl rfl)) (cG (bH (i:=4) fW.nd rfl (Or.inl rfl)) (cG (bH (i:=5) fW.nd rfl (Or.inl rfl)) jy))))))
   (aC (aY (i:=6) fW.nd rfl (Or.inl rfl) aA)
   (aC (dw Zaq rfl (ux rfl T.dm (ao (pv 4) (ao (aR bC (pv 5) aA) aG))) (bH (i:=7) fW.nd rfl (Or.inl rfl))
    (aN (cX (bG (dD hr) (pv 2) jR (bN _))
     (aN (aY (i:=6) fW.nd rfl (Or.inl rfl) (aR bC (pv 6) (aR wu aA (aR bC (aR dM (pv 3) (aP aK (pv 0) aA (λ_ _=>rfl))) (pv 7))))))
     (aN (aY (i:=6) fW.nd rfl (Or.inl rfl) (aR bC (pv 6) (aR wu aA (aR bC (aR dM (pv 7) (aP aK (pv 0) aA (λ_ _=>rfl))) (pv 3)))))))))
   (aN (bw (pv 6)))))),cg (b:=lL) (k:=2) (n:=6) rfl (λps r e=>match ps,e with|[_,_],e=>⟨rfl,e⟩) h λio H0 F0 hio=>?_⟩
 exact(aQ (bu (aj 1) (nA (cH (aM 2) (cH (aM 3) (cH (aM 4) (cH (aM 5) jC))))))
   (aQ (bu aB (aM 6))
   (aQ (dC (zR (az (aj 4) (az (au aF.up cA (aj 5) aB) aO))) (aM 7)
    (dg (bF (au aH.up jD (bJ 2) (bz eE)))
     (bu (au aF.up cA (aj 6) (au aF.up Cw aB (au aF.up cA (au aF.up iy (aj 3) (au aF.up bc (aj 0) aB)) (aj 7)))) (aM 6))
     (bu (au aF.up cA (aj 6) (au aF.up Cw aB (au aF.up cA (au aF.up iy (aj 7) (au aF.up bc (aj 0) aB)) (aj 3)))) (aM 6))))
   (bL (aj 6)))))
theorem fL:bB ["_law_size_here","_law_plan_here","_law_wood","_law_prints_here","_law_word","_law_block","_law_what","_law_here"] ["_law_size_here","_law_plan_here"] (aL (top 51)):=⟨rfl,rfl,rfl,by decide +kernel,rfl,by decide +kernel,by decide +kernel⟩
theorem Ek(T:Txt mg)(D:bj K mg "_law_prints" (top 51) ["_law_size_here","_law_plan_here"])(Es:FnAt P w K mg base "_law_mask" 1 ["_law_size_here","_law_stroke_here"] (spM K XR0 lM)):FnAt P w K mg base "_law_prints" 2 ["_law_size_here","_law_plan_here"] (spO K XR0 iV):=by
 refine D.ok fL (λvs H Q E h=>jH h λps r e=>match ps,e with|[_,_],_=>rfl) (λf cdv A outer s H vs Q E hr h=>?_)
 refine⟨_,(aC (aY (i:=2) fL.nd rfl (Or.inl rfl) wF)
   (aC (aY (i:=3) fL.nd rfl (Or.inl rfl) wF)
   (aC (dw Zaq rfl (iJ (pv 1)) (nj (n:=3) rfl (cG (bH (i:=4) fL.nd rfl (Or.inl rfl)) (cG (bH (i:=5) fL.nd rfl (Or.inl rfl)) (cG (bH (i:=6) fL.nd rfl (Or.inl rfl)) jy))))
    (aC (aY (i:=7) fL.nd rfl (Or.inl rfl) (uN hr (pv 2) (pv 5) (aR rR (aR wu aA (aR dM (aP aK (pv 0) aA (λ_ _=>rfl)) (aP aK (pv 0) aA (λ_ _=>rfl)))) aA) ⟨rfl,rfl,rfl,rfl⟩))
    (aN (cX (bG (dD hr) (pv 4) jR (bN _))
     (aN (vP (tD hr) (pv 2) (pv 5) (aR rR (pv 7) (aR zr (pv 7) (aW Es (hr.mono (by decide)) rfl (ao (pv 0) (ao (pv 6) aG))))) rfl))
     (aN (vP (tD hr) (pv 3) (pv 6) (pv 7) rfl))))))
   (aN (bw (pv 3)))))),jG (b:=iU) (k:=2) (n:=6) rfl (λps r e=>match ps,e with|[_,_],e=>⟨rfl,e⟩) h λio H0 F0 hio=>?_⟩
 exact(aQ (gr (i:=2) trivial zY)
   (aQ (gr (i:=3) trivial zY)
   (aQ (dC (jE (aj 1)) (nA (cH (aM 4) (cH (aM 5) (cH (aM 6) jC))))
    (aQ (bu (tV (jP 2) (aj 5) (au aF.up wQ (au aF.up Cw aB (au aF.up iy (au aF.up bc (aj 0) aB) (au aF.up bc (aj 0) aB))) aB)) (aM 7))
    (dg (bF (au aH.up jD (bJ 4) (bz eE)))
     (vR (au aF.up wQ (aj 7) (au aF.up Ho (aj 7) (bM (az (aj 0) (az (aj 6) aO))))) (aj 5))
     (vR (aj 7) (aj 6)))))
   (jX 3 hio))))
theorem gH:bB ["_law_bench_here","_law_stack","_law_colour_here","_law_number","_law_ink_here"] ["_law_bench_here","_law_stack"] (aL (top 52)):=⟨rfl,rfl,rfl,by decide +kernel,rfl,by decide +kernel,by decide +kernel⟩
theorem El(T:Txt mg)(D:bj K mg "_law_colour" (top 52) ["_law_bench_here","_law_stack"]):FnAt P w K mg base "_law_colour" 1 ["_law_bench_here","_law_stack"] (spM K XR0 iY):=by
 refine D.ok gH (λvs H Q E h=>cj h λps r e=>match ps,e with|[_,_],_=>rfl) (λf cdv A outer s H vs Q E hr h=>?_)
 refine⟨_,(aC (aY (i:=2) gH.nd rfl (Or.inl rfl) (aP aK (pv 0) aA (λ_ _=>rfl)))
   (aC (dw Zaq rfl (iJ (pv 1)) (bH (i:=3) gH.nd rfl (Or.inl rfl))
    (aC (aY (i:=4) gH.nd rfl (Or.inl rfl) (aP aK (aP aK (pv 0) aA (λ_ _=>rfl)) (pv 3) (λ_ _=>rfl)))
    (aN (cX (bG (dD hr) (aP aK (pv 4) aA (λ_ _=>rfl)) jR (bN _))
     (aN (aY (i:=2) gH.nd rfl (Or.inl rfl) (aP aK (pv 4) aA (λ_ _=>rfl))))
     (aN (aY (i:=2) gH.nd rfl (Or.inl rfl) (uN hr (fu (xm hr rfl) rfl T.Nb (by decide +kernel) (ao (aP aK (pv 4) aA (λ_ _=>rfl)) aG)) (pv 2) (pv 2) ⟨rfl,rfl,rfl,rfl⟩)))))))
   (aN (bw (pv 2))))),cg (b:=iW) (k:=2) (n:=3) rfl (λps r e=>match ps,e with|[_,_],e=>⟨rfl,e⟩) h λio H0 F0 hio=>?_⟩
 exact(aQ (bu (au aF.up bc (aj 0) aB) (aM 2))
   (aQ (dC (jE (aj 1)) (aM 3)
    (aQ (bu (au aF.up bc (au aF.up bc (aj 0) aB) (aj 3)) (aM 4))
    (dg (bF (au aH.up jD (bz (au aF.up bc (aj 4) aB)) (bz eE)))
     (bu (au aF.up bc (aj 4) aB) (aM 2))
     (bu (tV (Ly (cU (uL (O3 λ_ _ _=>Hw) (au aF.up bc (aj 4) aB)))) (aj 2) (aj 2)) (aM 2)))))
   (bL (aj 2))))
theorem dX:bB ["_law_bench_here","_law_size_here","_law_prints_here","_law_known","_law_picture","_law_row","_law_line","_law_column","_law_number","_law_stack"] ["_law_bench_here","_law_size_here","_law_prints_here"] (aL (top 53)):=⟨rfl,rfl,rfl,by decide +kernel,rfl,by decide +kernel,by decide +kernel⟩
theorem Bf(T:Txt mg)(D:bj K mg "_law_pressed" (top 53) ["_law_bench_here","_law_size_here","_law_prints_here"])(yu:FnAt P w K mg base "_law_colour" 1 ["_law_bench_here","_law_stack"] (spM K XR0 iY)):FnAt P w K mg base "_law_pressed" 2 ["_law_bench_here","_law_size_here","_law_prints_here"] (spO K XR0 iu):=by
 refine D.ok dX (λvs H Q E h=>jH h λps r e=>match ps,e with|[_,_,_],_=>rfl) (λf cdv A outer s H vs Q E hr h=>?_)
 refine⟨_,(aC (aY (i:=3) dX.nd rfl (Or.inl rfl) KN)
   (aC (aY (i:=4) dX.nd rfl (Or.inl rfl) (gM aG))
   (aC (dw Zaq rfl (cM rfl T.dm (ao (aP aK (pv 1) aA (λ_ _=>rfl)) aG)) (bH (i:=5) dX.nd rfl (Or.inl rfl))
    (aC (aY (i:=6) dX.nd rfl (Or.inl rfl) (gM aG))
    (aC (dw Zaq rfl (cM rfl T.dm (ao (aP aK (pv 1) aA (λ_ _=>rfl)) aG)) (bH (i:=7) dX.nd rfl (Or.inl rfl))
     (aC (aY (i:=8) dX.nd rfl (Or.inr rfl) (aR bC (aR dM (pv 5) (aP aK (pv 1) aA (λ_ _=>rfl))) (pv 7)))
     (aC (aY (i:=9) dX.nd rfl (Or.inl rfl) (fu iI rfl T.n6 (by decide +kernel) (ao (O7 2 (gq ["_law_ink_here","_law_number","_law_prints_here"] [none,some 8,some 2] rfl (O9 (pv 2)) (λ_ _ _ _ _=>(dO (i:=0) (by decide +kernel) rfl rfl)) (λ_ _ _ _ _=>(Kw (bG (OD hr) (aR zr (aR Km (JC hr (pvf 2) (pvl 0) (λ_ _=>rfl)) (pvf 1)) aA) aA (bN _)))) (λ_ _ _ _ _=>(pvl 0)))) aG)))
     (aC (cX (bG (JB hr) (pv 9) (pv 3) (by with_unfolding_all rfl))
      (aN (vP (tD hr) (pv 3) (pv 9) (aW yu (hr.mono (by decide)) rfl (ao (pv 0) (ao (pv 9) aG))) rfl))
      cB)
     (aN (fM (mz Zax Zav PySem.F.type_list_append dH (pv 6) (ao (LK hr (pv 3) (pv 9) (λ_ _=>rfl)) aG))))))))
    (aN (fM (mz Zax Zav PySem.F.type_list_append dH (pv 4) (ao (pv 6) aG)))))))
   (aN (bw (pv 4)))))),jG (b:=ir) (k:=3) (n:=7) rfl (λps r e=>match ps,e with|[_,_,_],e=>⟨rfl,e⟩) h λio H0 F0 hio=>?_⟩
 exact(aQ (gr (i:=3) trivial O1)
   (aQ (gr (i:=4) trivial (gP aO))
   (aQ (dC (dU (az (au aF.up bc (aj 1) aB) aO)) (aM 5)
    (aQ (gr (i:=6) trivial (gP aO))
    (aQ (dC (dU (az (au aF.up bc (aj 1) aB) aO)) (aM 7)
     (aQ (bu (au aF.up cA (au aF.up iy (aj 5) (au aF.up bc (aj 1) aB)) (aj 7)) (aM 8))
     (aQ (bu (dN Ht (jB (Pg 2 (λ_ _=>Dg (Ml 2) (aM 0) (fG 0) (bF (au aH.up jD (bz (au aF.up Ho (au aF.up QK (Hy (jP 2) (aj 0)) (aj 1)) aB)) (bz aB))) (aj 0))))) (aM 9))
     (aQ (dg (bF (au aF.up Lz (aj 9) (jP 3)))
      (vR (bM (az (aj 0) (az (aj 9) aO))) (aj 9))
      cC)
     (jt (Hy (jP 3) (aj 9)))))))
    (K5 6 hio (jt (aj 6))))))
   (jX 4 hio))))
theorem gJ:bB ["_law_script","_law_printed","_law_size_here","_law_some","_law_words_here","_law_wish_here","_law_k","_law_line","_law_row","_law_column"] ["_law_script","_law_printed","_law_size_here"] (aL (top 54)):=⟨rfl,rfl,rfl,by decide +kernel,rfl,by decide +kernel,by decide +kernel⟩
theorem J9(T:Txt mg)(D:bj K mg "_law_wish" (top 54) ["_law_script","_law_printed","_law_size_here"])(cJ:FnAt P w K mg base "_law_stream" 1 ["_law_cell","_law_many"] (spO K XR0 bR))(gn:FnAt P w K mg base "_law_window" 1 ["_law_cell","_law_turn"] (spM K XR0 cW))(dJ:FnAt P w K mg base "_law_cell_at" 1 ["_law_script","_law_k"] (spM K XR0 bQ))(oh:FnAt P w K mg base "_law_words" 2 ["_law_cell","_law_many"] (spO K XR0 dF)):FnAt P w K mg base "_law_wish" 3 ["_law_script","_law_printed","_law_size_here"] (spD K XR0 jk):=by
 refine D.ok gJ (λvs H Q E h=>HN h λps r e=>match ps,e with|[_,_,_],_=>rfl) (λf cdv A outer s H vs Q E hr h=>?_)
 refine⟨_,(aC (aY (i:=3) gJ.nd rfl (Or.inl rfl) (aW cJ (hr.mono (by decide)) rfl (ao (aR bC (aW gn (hr.mono (by decide)) rfl (ao (aW dJ (hr.mono (by decide)) rfl (ao (pv 0) (ao aA aG))) (ao aA aG))) aA) (ao aA aG))))
   (aC (aY (i:=4) gJ.nd rfl (Or.inl rfl) (aW oh (hr.mono (by decide)) rfl (ao (aW dJ (hr.mono (by decide)) rfl (ao (pv 0) (ao aA aG))) (ao aA aG))))
   (aC (Ob (i:=5) ["_law_line"] [none] rfl gJ.nd rfl rfl (iJ (pv 1)) (λ_ _ _ _ _=>(dO (i:=0) (by decide +kernel) rfl rfl)) (λ_ _ _ _ _=>jV) (λ_ _ _ _ _=>(fu qT (glc rfl) T.Bg (by decide +kernel) (ao (pvl 0) aG))))
   (aC (cX (bG (dD hr) (aR bO (aP aK (pv 3) aA (λ_ _=>rfl)) aA) aA (bN _))
    (aN (dw Zaq rfl (cM rfl T.dm (ao (aR bC aA (aR bO (aP aK (pv 3) aA (λ_ _=>rfl)) aA)) aG)) (bH (i:=6) gJ.nd rfl (Or.inl rfl))
     (aC (aY (i:=7) gJ.nd rfl (Or.inl rfl) (aP aK (pv 5) (aR bO (aP aK (pv 3) (aR bC aA (pv 6)) (λ_ _=>rfl)) (aP aK (pv 2) aA (λ_ _=>rfl))) (λ_ _=>rfl)))
     (aN (zq (aP aK (pv 4) (aR bO (aP aK (pv 3) (aR bC aA (pv 6)) (λ_ _=>rfl)) aA) (λ_ _=>rfl)) (EY (pv 7) (aR bO (aP aK (pv 3) (aR bC aA (pv 6)) (λ_ _=>rfl)) (aP aK (pv 2) aA (λ_ _=>rfl))) set_list))))))
    cB)
   (aC (cX (bG (dD hr) (aR bO (aP aK (pv 3) aA (λ_ _=>rfl)) aA) aA (bN _))
    (aN (zq (aP aK (pv 4) (aR bO (aP aK (pv 3) aA (λ_ _=>rfl)) aA) (λ_ _=>rfl)) (EY (aP aK (pv 5) (Hb Fg aA) (λ_ _=>rfl)) (Hb Fg aA) set_list)))
    cB)
   (aC (cX (bG (dD hr) (aR bO (aP aK (pv 3) aA (λ_ _=>rfl)) aA) aA (bN _))
    (aN (dw Zaq rfl (cM rfl T.dm (ao (aP aK (pv 2) aA (λ_ _=>rfl)) aG)) (bH (i:=8) gJ.nd rfl (Or.inl rfl))
     (aN (dw Zaq rfl (cM rfl T.dm (ao (aP aK (pv 2) aA (λ_ _=>rfl)) aG)) (bH (i:=9) gJ.nd rfl (Or.inl rfl))
      (aN (cX (bG (dD hr) (aR bO (aR bC (aR bC (aP aK (pv 3) aA (λ_ _=>rfl)) (aR dM (pv 8) (aP aK (pv 3) aA (λ_ _=>rfl)))) (aR dM (pv 9) (aP aK (pv 3) aA (λ_ _=>rfl)))) aA) aA (bN _))
       (aN (zq (aP aK (pv 4) (aR bO (aR bC (pv 8) (pv 9)) aA) (λ_ _=>rfl)) (EY (aP aK (pv 5) (pv 8) (λ_ _=>rfl)) (pv 9) set_list)))
       cB))))))
    cB)
   (aN (bw (pv 5))))))))),HJ (b:=lN) (k:=3) (n:=7) rfl (λps r e=>match ps,e with|[_,_,_],e=>⟨rfl,e⟩) h λio H0 F0 hio=>?_⟩
 exact(aQ (bu (cU (eN (az (au aF.up cA (bM (az (bM (az (aj 0) (az aB aO))) (az aB aO))) aB) (az aB aO)))) (aM 3))
   (aQ (bu (cU (eN (az (bM (az (aj 0) (az aB aO))) (az aB aO)))) (aM 4))
   (aQ (O5 (i:=5) trivial (HF (jE (aj 1)) (aM 0) (fG 0) jY (QR (uL zT (gb 0)))))
   (aQ (dg (bF (au aH.up jD (bz (au aF.up cD (au aF.up bc (aj 3) aB) aB)) (bz aB)))
    (dC (dU (az (au aF.up cA aB (au aF.up cD (au aF.up bc (aj 3) aB) aB)) aO)) (aM 6)
     (JF (i:=5) (g:=7) (au aF.up cD (au aF.up bc (aj 3) (au aF.up cA aB (aj 6))) (au aF.up bc (aj 2) aB)) (au aF.up bc (aj 4) (au aF.up cD (au aF.up bc (aj 3) (au aF.up cA aB (aj 6))) aB)) (au aF.up cD (au aF.up bc (aj 3) (au aF.up cA aB (aj 6))) (au aF.up bc (aj 2) aB))))
    cC)
   (aQ (dg (bF (au aH.up jD (bz (au aF.up cD (au aF.up bc (aj 3) aB) aB)) (bz aB)))
    (HR (au aF.up bc (aj 4) (au aF.up cD (au aF.up bc (aj 3) aB) aB)) (FQ aB) (FQ aB))
    cC)
   (aQ (dg (bF (au aH.up jD (bz (au aF.up cD (au aF.up bc (aj 3) aB) aB)) (bz aB)))
    (dC (dU (az (au aF.up bc (aj 2) aB) aO)) (aM 8)
     (dC (dU (az (au aF.up bc (aj 2) aB) aO)) (aM 9)
      (dg (bF (au aH.up jD (bz (au aF.up cD (au aF.up cA (au aF.up cA (au aF.up bc (aj 3) aB) (au aF.up iy (aj 8) (au aF.up bc (aj 3) aB))) (au aF.up iy (aj 9) (au aF.up bc (aj 3) aB))) aB)) (bz aB)))
       (HR (au aF.up bc (aj 4) (au aF.up cD (au aF.up cA (aj 8) (aj 9)) aB)) (aj 8) (aj 9))
       cC)))
    cC)
   (Mf 5)))))))
theorem xX:bB ["_law_printed","_law_wish_here","_law_row","_law_column"] ["_law_printed","_law_wish_here"] (aL (top 55)):=⟨rfl,rfl,rfl,by decide +kernel,rfl,by decide +kernel,by decide +kernel⟩
theorem M9(T:Txt mg)(D:bj K mg "_law_due" (top 55) ["_law_printed","_law_wish_here"]):FnAt P w K mg base "_law_due" 1 ["_law_printed","_law_wish_here"] (spM K XR0 nY):=by
 refine D.ok xX (λvs H Q E h=>cj h λps r e=>match ps,e with|[_,_],_=>rfl) (λf cdv A outer s H vs Q E hr h=>?_)
 refine⟨_,(aC (dw Zaq rfl (cM rfl T.dm (ao (bZ cY rfl T.jn (by decide +kernel) (ao (pv 1) aG)) aG)) (bH (i:=2) xX.nd rfl (Or.inl rfl))
    (aN (dw Zaq rfl (cM rfl T.dm (ao (bZ cY rfl T.jn (by decide +kernel) (ao (aP aK (pv 1) (pv 2) (λ_ _=>rfl)) aG)) aG)) (bH (i:=3) xX.nd rfl (Or.inl rfl))
     (aN (cX (bG (uI hr) (aP aK (aP aK (pv 0) (pv 2) (λ_ _=>rfl)) (pv 3) (λ_ _=>rfl)) (aP aK (aP aK (pv 1) (pv 2) (λ_ _=>rfl)) (pv 3) (λ_ _=>rfl)) (bN _))
      (aN (bw (fB (ao (pv 3) (ao (pv 2) (ao (aP aK (aP aK (pv 0) (pv 2) (λ_ _=>rfl)) (pv 3) (λ_ _=>rfl)) (ao (aP aK (aP aK (pv 1) (pv 2) (λ_ _=>rfl)) (pv 3) (λ_ _=>rfl)) aG)))))))
      cB)))))
   (aN (bw uq))),cg (b:=nW) (k:=2) (n:=2) rfl (λps r e=>match ps,e with|[_,_],e=>⟨rfl,e⟩) h λio H0 F0 hio=>?_⟩
 exact(aQ (dC (dU (az (dN jd (bJ 1)) aO)) (aM 2)
    (dC (dU (az (dN jd (bz (au aF.up bc (aj 1) (aj 2)))) aO)) (aM 3)
     (dg (bF (au aH.up Jw (bz (au aF.up bc (au aF.up bc (aj 0) (aj 2)) (aj 3))) (bz (au aF.up bc (au aF.up bc (aj 1) (aj 2)) (aj 3)))))
      (bL (fC (az (aj 3) (az (aj 2) (az (au aF.up bc (au aF.up bc (aj 0) (aj 2)) (aj 3)) (az (au aF.up bc (au aF.up bc (aj 1) (aj 2)) (aj 3)) aO))))))
      cC)))
   (bL uF))
theorem my:bB ["_law_script","_law_bench_here","_law_size_here","_law_plan_here","_law_printed","_law_wish_here","_law_handed","_law_due_here","_law_k","_law_found"] ["_law_script"] (aL (top 56)):=⟨rfl,rfl,rfl,by decide +kernel,rfl,by decide +kernel,by decide +kernel⟩
theorem Sx(T:Txt mg){f:Addr}{fd:FuncData}(F:Fun K "law" "law" (top 56) f fd)(Bj:FnAt P w K mg base "_law_bench" 3 ["_law_script"] (spM K XR0 ik))(Et:FnAt P w K mg base "_law_size" 2 ["_law_cell"] (spM K XR0 jh))(dJ:FnAt P w K mg base "_law_cell_at" 1 ["_law_script","_law_k"] (spM K XR0 bQ))(Eu:FnAt P w K mg base "_law_plan" 2 ["_law_script","_law_size_here","_law_many"] (spO K XR0 jj))(yc:FnAt P w K mg base "_law_pressed" 2 ["_law_bench_here","_law_size_here","_law_prints_here"] (spO K XR0 iu))(yw:FnAt P w K mg base "_law_prints" 2 ["_law_size_here","_law_plan_here"] (spO K XR0 iV))(Ew:FnAt P w K mg base "_law_wish" 3 ["_law_script","_law_printed","_law_size_here"] (spD K XR0 jk))(GK:FnAt P w K mg base "_law_due" 1 ["_law_printed","_law_wish_here"] (spM K XR0 nY))(Ex:FnAt P w K mg base "unlike_at" 6 ["bench","picture","plan"] (spM K XR0 lH)):yf P w K mg base CX0 7 f fd ["_law_script"] (spM K XR0 za):=by
 refine F.ok my (λvs H Q E h=>cj h λps r e=>match ps,e with|[_],_=>rfl) (λcdv A outer s H vs Q E hr h=>?_)
 refine⟨_,(aC (aY (i:=1) my.nd rfl (Or.inl rfl) (aW Bj (hr.mono (by decide)) rfl (ao (pv 0) aG)))
   (aC (aY (i:=2) my.nd rfl (Or.inl rfl) (aW Et (hr.mono (by decide)) rfl (ao (aW dJ (hr.mono (by decide)) rfl (ao (pv 0) (ao aA aG))) aG)))
   (aC (aY (i:=3) my.nd rfl (Or.inl rfl) (aW Eu (hr.mono (by decide)) rfl (ao (pv 0) (ao (pv 2) (ao (bZ cY rfl T.jn (by decide +kernel) (ao (aP aK (pv 1) aA (λ_ _=>rfl)) aG)) aG)))))
   (aC (aY (i:=4) my.nd rfl (Or.inl rfl) (aW yc (hr.mono (by decide)) rfl (ao (pv 1) (ao (pv 2) (ao (aW yw (hr.mono (by decide)) rfl (ao (pv 2) (ao (pv 3) aG))) aG)))))
   (aC (aY (i:=5) my.nd rfl (Or.inl rfl) (aW Ew (hr.mono (by decide)) rfl (ao (pv 0) (ao (pv 4) (ao (pv 2) aG)))))
   (aC (aY (i:=6) my.nd rfl (Or.inl rfl) (fB (ao (fB (ao (aP aK (pv 1) aA (λ_ _=>rfl)) (ao (fu nu rfl T.Bg (by decide +kernel) (ao (aP aK (pv 1) aA (λ_ _=>rfl)) aG)) aG))) (ao (gq ["_law_line"] [none] rfl (iJ (pv 5)) (λ_ _ _ _ _=>(dO (i:=0) (by decide +kernel) rfl rfl)) (λ_ _ _ _ _=>jV) (λ_ _ _ _ _=>(fu qT (glc rfl) T.Bg (by decide +kernel) (ao (pvl 0) aG)))) (ao (fu nu rfl T.Bg (by decide +kernel) (ao (pv 3) aG)) aG)))))
   (aC (aY (i:=7) my.nd rfl (Or.inl rfl) (aW GK (hr.mono (by decide)) rfl (ao (pv 4) (ao (pv 5) aG))))
   (aC (dw Zaq rfl (cM rfl T.dm (ao aA aG)) (bH (i:=8) my.nd rfl (Or.inl rfl))
    (aC (aY (i:=9) my.nd rfl (Or.inl rfl) (aW Ex (hr.mono (by decide)) rfl (ao (aP aK (pv 6) aA (λ_ _=>rfl)) (ao (aP aK (pv 6) aA (λ_ _=>rfl)) (ao (aP aK (pv 6) aA (λ_ _=>rfl)) aG)))))
    (aC (cX (bG (uI hr) (pv 6) (fB (ao (pv 1) (ao (pv 5) (ao (pv 3) aG)))) (bN _))
     (aN (bw qP))
     cB)
    (aC (cX (PW.pt (ut (bG Rm (pv 7) uq (bN _)) (qm (bG zu (pv 9) uq (bN _)))))
     (aN (bw qP))
     cB)
    (aN (cX (PW.pt (ut (bG zu (pv 7) uq (bN _)) (qm (PW.pt (Bt (pq (lQ (bZ jZ rfl T.eX (by decide +kernel) (ao (pv 9) (ao (wD rfl T.n6 (n:="tuple") (by decide +kernel)) aG))))) (vY (bG (uI hr) (pv 9) (pv 7) (bN _))))))))
     (aN (bw qP))
     cB))))))
   (aN (bw qP)))))))))),cg (b:=Ig) (k:=1) (n:=9) rfl (λps r e=>match ps,e with|[_],e=>⟨rfl,e⟩) h λio H0 F0 hio=>?_⟩
 exact(aQ (bu (bM (az (aj 0) aO)) (aM 1))
   (aQ (bu (bM (az (bM (az (aj 0) (az aB aO))) aO)) (aM 2))
   (aQ (bu (cU (eN (az (aj 0) (az (aj 2) (az (dN jd (bz (au aF.up bc (aj 1) aB))) aO))))) (aM 3))
   (aQ (bu (cU (eN (az (aj 1) (az (aj 2) (az (cU (eN (az (aj 2) (az (aj 3) aO)))) aO))))) (aM 4))
   (aQ (bu (Ma (Hz (az (aj 0) (az (aj 4) (az (aj 2) aO))))) (aM 5))
   (aQ (bu (fC (az (fC (az (au aF.up bc (aj 1) aB) (az (cU (uL zT (Hl (au aF.up bc (aj 1) aB)))) aO))) (az (cU (jF (jE (aj 5)) (aM 0) (fG 0) jY (cU (uL zT (gb 0))))) (az (cU (uL zT (gb 3))) aO)))) (aM 6))
   (aQ (bu (bM (az (aj 4) (az (aj 5) aO))) (aM 7))
   (aQ (dC (dU (az aB aO)) (aM 8)
    (aQ (bu (bM (az (au aF.up bc (aj 6) aB) (az (au aF.up bc (aj 6) aB) (az (au aF.up bc (aj 6) aB) aO)))) (aM 9))
    (aQ (dg (bF (au aH.up Jw (bJ 6) (bz (fC (az (aj 1) (az (aj 5) (az (aj 3) aO)))))))
     (bL qU)
     cC)
    (aQ (dg (uH (bF (au aH.up Ub (bJ 7) uF)) (bF (au aH.up Fz (bJ 9) uF)))
     (bL qU)
     cC)
    (dg (uH (bF (au aH.up Fz (bJ 7) uF)) (Ck (pC (lU (rW aH.up FP (bJ 9) wI))) (bF (au aH.up Jw (bJ 9) (bJ 7)))))
     (bL qU)
     cC)))))
   (bL qU)))))))))
end
theorem Sy{l:PySem.W.OpenLaw}{w:World}{K:Frag}{h:Heap}{mg:Str->Option Value}{fa f0 f1 f2 f3 f4 f5 f6 f7 f8 f9 f10 f11 f12 f13 f14 f15 f16 f17 f18 f19 f20 f21 f22 f23 f24 f25 f26 f27 f28 f29 f30 f31 f32 f33 f34 f35 f36 f37 f38 f39 f40:Addr}(X:K.In h)(G:h.Ns mainGlobals mg)(hfa:mg "law"=some (.ref fa))
  {od0 an0 od1 an1 od2 an2 od3 an3 od4 an4 od5 an5 od6 an6 od7 an7 od8 an8 od9 an9 od10 an10 od11 an11 od12 an12 od13 an13 od14 an14 od15 an15 od16 an16 od17 an17 od18 an18 od19 an19 od20 an20 od21 an21 od22 an22 od23 an23 od24 an24 od25 an25 od26 an26 od27 an27 od28 an28 od29 an29 od30 an30 od31 an31 od32 an32 od33 an33 od34 an34 od35 an35 od36 an36 od37 an37 od38 an38 od39 an39 od40 an40:Option Addr}{sl0 sl1 sl2 sl3 sl4 sl5 sl6 sl7 sl8 sl9 sl10 sl11 sl12 sl13 sl14 sl15 sl16 sl17 sl18 sl19 sl20 sl21 sl22 sl23 sl24 sl25 sl26 sl27 sl28 sl29 sl30 sl31 sl32 sl33 sl34 sl35 sl36 sl37 sl38 sl39 sl40:Array (Option Value)}{oc0 kV0 dc0 pm0 cd0 ct0 oc1 kV1 dc1 pm1 cd1 ct1 oc2 kV2 dc2 pm2 cd2 ct2 oc3 kV3 dc3 pm3 cd3 ct3 oc4 kV4 dc4 pm4 cd4 ct4 oc5 kV5 dc5 pm5 cd5 ct5 oc6 kV6 dc6 pm6 cd6 ct6 oc7 kV7 dc7 pm7 cd7 ct7 oc8 kV8 dc8 pm8 cd8 ct8 oc9 kV9 dc9 pm9 cd9 ct9 oc10 kV10 dc10 pm10 cd10 ct10 oc11 kV11 dc11 pm11 cd11 ct11 oc12 kV12 dc12 pm12 cd12 ct12 oc13 kV13 dc13 pm13 cd13 ct13 oc14 kV14 dc14 pm14 cd14 ct14 oc15 kV15 dc15 pm15 cd15 ct15 oc16 kV16 dc16 pm16 cd16 ct16 oc17 kV17 dc17 pm17 cd17 ct17 oc18 kV18 dc18 pm18 cd18 ct18 oc19 kV19 dc19 pm19 cd19 ct19 oc20 kV20 dc20 pm20 cd20 ct20 oc21 kV21 dc21 pm21 cd21 ct21 oc22 kV22 dc22 pm22 cd22 ct22 oc23 kV23 dc23 pm23 cd23 ct23 oc24 kV24 dc24 pm24 cd24 ct24 oc25 kV25 dc25 pm25 cd25 ct25 oc26 kV26 dc26 pm26 cd26 ct26 oc27 kV27 dc27 pm27 cd27 ct27 oc28 kV28 dc28 pm28 cd28 ct28 oc29 kV29 dc29 pm29 cd29 ct29 oc30 kV30 dc30 pm30 cd30 ct30 oc31 kV31 dc31 pm31 cd31 ct31 oc32 kV32 dc32 pm32 cd32 ct32 oc33 kV33 dc33 pm33 cd33 ct33 oc34 kV34 dc34 pm34 cd34 ct34 oc35 kV35 dc35 pm35 cd35 ct35 oc36 kV36 dc36 pm36 cd36 ct36 oc37 kV37 dc37 pm37 cd37 ct37 oc38 kV38 dc38 pm38 cd38 ct38 oc39 kV39 dc39 pm39 cd39 ct39 oc40 kV40 dc40 pm40 cd40 ct40:Value}{t_COLUMN t_COVER t_CUT t_PRINT t_ROW:Tok}
  (a0:nsIn K mainGlobals "is_whole"=some (some (.ref f0)))(l0:K.lookup f0=some ⟨oc0,od0,.func (fnOf "is_whole" "is_whole" (bx (top 4)) (bh (top 4)) (aL (top 4)) .none kV0 dc0 pm0 an0 cd0 ct0),sl0⟩)(c0:codeIn K cd0 "is_whole"=true)(k0:keepIn K (.ref f0)=true)
  (a1:nsIn K mainGlobals "place_of"=some (some (.ref f1)))(l1:K.lookup f1=some ⟨oc1,od1,.func (fnOf "place_of" "place_of" (bx (top 5)) (bh (top 5)) (aL (top 5)) .none kV1 dc1 pm1 an1 cd1 ct1),sl1⟩)(c1:codeIn K cd1 "place_of"=true)(k1:keepIn K (.ref f1)=true)
  (a2:nsIn K mainGlobals "has_cell"=some (some (.ref f2)))(l2:K.lookup f2=some ⟨oc2,od2,.func (fnOf "has_cell" "has_cell" (bx (top 6)) (bh (top 6)) (aL (top 6)) .none kV2 dc2 pm2 an2 cd2 ct2),sl2⟩)(c2:codeIn K cd2 "has_cell"=true)(k2:keepIn K (.ref f2)=true)
  (a3:nsIn K mainGlobals "all_of"=some (some (.ref f3)))(l3:K.lookup f3=some ⟨oc3,od3,.func (fnOf "all_of" "all_of" (bx (top 7)) (bh (top 7)) (aL (top 7)) .none kV3 dc3 pm3 an3 cd3 ct3),sl3⟩)(c3:codeIn K cd3 "all_of"=true)(k3:keepIn K (.ref f3)=true)
  (a4:nsIn K mainGlobals "set_of"=some (some (.ref f4)))(l4:K.lookup f4=some ⟨oc4,od4,.func (fnOf "set_of" "set_of" (bx (top 8)) (bh (top 8)) (aL (top 8)) .none kV4 dc4 pm4 an4 cd4 ct4),sl4⟩)(c4:codeIn K cd4 "set_of"=true)(k4:keepIn K (.ref f4)=true)
  (a5:nsIn K mainGlobals "size_of"=some (some (.ref f5)))(l5:K.lookup f5=some ⟨oc5,od5,.func (fnOf "size_of" "size_of" (bx (top 10)) (bh (top 10)) (aL (top 10)) .none kV5 dc5 pm5 an5 cd5 ct5),sl5⟩)(c5:codeIn K cd5 "size_of"=true)(k5:keepIn K (.ref f5)=true)
  (a6:nsIn K mainGlobals "is_stroke"=some (some (.ref f6)))(l6:K.lookup f6=some ⟨oc6,od6,.func (fnOf "is_stroke" "is_stroke" (bx (top 14)) (bh (top 14)) (aL (top 14)) .none kV6 dc6 pm6 an6 cd6 ct6),sl6⟩)(c6:codeIn K cd6 "is_stroke"=true)(k6:keepIn K (.ref f6)=true)
  (a7:nsIn K mainGlobals "lines_of"=some (some (.ref f7)))(l7:K.lookup f7=some ⟨oc7,od7,.func (fnOf "lines_of" "lines_of" (bx (top 15)) (bh (top 15)) (aL (top 15)) .none kV7 dc7 pm7 an7 cd7 ct7),sl7⟩)(c7:codeIn K cd7 "lines_of"=true)(k7:keepIn K (.ref f7)=true)
  (a8:nsIn K mainGlobals "length_of"=some (some (.ref f8)))(l8:K.lookup f8=some ⟨oc8,od8,.func (fnOf "length_of" "length_of" (bx (top 16)) (bh (top 16)) (aL (top 16)) .none kV8 dc8 pm8 an8 cd8 ct8),sl8⟩)(c8:codeIn K cd8 "length_of"=true)(k8:keepIn K (.ref f8)=true)
  (a9:nsIn K mainGlobals "lies_on"=some (some (.ref f9)))(l9:K.lookup f9=some ⟨oc9,od9,.func (fnOf "lies_on" "lies_on" (bx (top 17)) (bh (top 17)) (aL (top 17)) .none kV9 dc9 pm9 an9 cd9 ct9),sl9⟩)(c9:codeIn K cd9 "lies_on"=true)(k9:keepIn K (.ref f9)=true)
  (a10:nsIn K mainGlobals "stroke_cells"=some (some (.ref f10)))(l10:K.lookup f10=some ⟨oc10,od10,.func (fnOf "stroke_cells" "stroke_cells" (bx (top 18)) (bh (top 18)) (aL (top 18)) .none kV10 dc10 pm10 an10 cd10 ct10),sl10⟩)(c10:codeIn K cd10 "stroke_cells"=true)(k10:keepIn K (.ref f10)=true)
  (a11:nsIn K mainGlobals "cells_cut"=some (some (.ref f11)))(l11:K.lookup f11=some ⟨oc11,od11,.func (fnOf "cells_cut" "cells_cut" (bx (top 19)) (bh (top 19)) (aL (top 19)) .none kV11 dc11 pm11 an11 cd11 ct11),sl11⟩)(c11:codeIn K cd11 "cells_cut"=true)(k11:keepIn K (.ref f11)=true)
  (a12:nsIn K mainGlobals "is_number"=some (some (.ref f12)))(l12:K.lookup f12=some ⟨oc12,od12,.func (fnOf "is_number" "is_number" (bx (top 23)) (bh (top 23)) (aL (top 23)) .none kV12 dc12 pm12 an12 cd12 ct12),sl12⟩)(c12:codeIn K cd12 "is_number"=true)(k12:keepIn K (.ref f12)=true)
  (a13:nsIn K mainGlobals "is_deed"=some (some (.ref f13)))(l13:K.lookup f13=some ⟨oc13,od13,.func (fnOf "is_deed" "is_deed" (bx (top 24)) (bh (top 24)) (aL (top 24)) .none kV13 dc13 pm13 an13 cd13 ct13),sl13⟩)(c13:codeIn K cd13 "is_deed"=true)(k13:keepIn K (.ref f13)=true)
  (a14:nsIn K mainGlobals "can_follow"=some (some (.ref f14)))(l14:K.lookup f14=some ⟨oc14,od14,.func (fnOf "can_follow" "can_follow" (bx (top 25)) (bh (top 25)) (aL (top 25)) .none kV14 dc14 pm14 an14 cd14 ct14),sl14⟩)(c14:codeIn K cd14 "can_follow"=true)(k14:keepIn K (.ref f14)=true)
  (a15:nsIn K mainGlobals "replayed_with"=some (some (.ref f15)))(l15:K.lookup f15=some ⟨oc15,od15,.func (fnOf "replayed_with" "replayed_with" (bx (top 26)) (bh (top 26)) (aL (top 26)) .none kV15 dc15 pm15 an15 cd15 ct15),sl15⟩)(c15:codeIn K cd15 "replayed_with"=true)(k15:keepIn K (.ref f15)=true)
  (a16:nsIn K mainGlobals "laid"=some (some (.ref f16)))(l16:K.lookup f16=some ⟨oc16,od16,.func (fnOf "laid" "laid" (bx (top 29)) (bh (top 29)) (aL (top 29)) .none kV16 dc16 pm16 an16 cd16 ct16),sl16⟩)(c16:codeIn K cd16 "laid"=true)(k16:keepIn K (.ref f16)=true)
  (a17:nsIn K mainGlobals "colour_of"=some (some (.ref f17)))(l17:K.lookup f17=some ⟨oc17,od17,.func (fnOf "colour_of" "colour_of" (bx (top 30)) (bh (top 30)) (aL (top 30)) .none kV17 dc17 pm17 an17 cd17 ct17),sl17⟩)(c17:codeIn K cd17 "colour_of"=true)(k17:keepIn K (.ref f17)=true)
  (a18:nsIn K mainGlobals "stack_at"=some (some (.ref f18)))(l18:K.lookup f18=some ⟨oc18,od18,.func (fnOf "stack_at" "stack_at" (bx (top 32)) (bh (top 32)) (aL (top 32)) .none kV18 dc18 pm18 an18 cd18 ct18),sl18⟩)(c18:codeIn K cd18 "stack_at"=true)(k18:keepIn K (.ref f18)=true)
  (a19:nsIn K mainGlobals "pressed_row"=some (some (.ref f19)))(l19:K.lookup f19=some ⟨oc19,od19,.func (fnOf "pressed_row" "pressed_row" (bx (top 33)) (bh (top 33)) (aL (top 33)) .none kV19 dc19 pm19 an19 cd19 ct19),sl19⟩)(c19:codeIn K cd19 "pressed_row"=true)(k19:keepIn K (.ref f19)=true)
  (a20:nsIn K mainGlobals "pressed"=some (some (.ref f20)))(l20:K.lookup f20=some ⟨oc20,od20,.func (fnOf "pressed" "pressed" (bx (top 34)) (bh (top 34)) (aL (top 34)) .none kV20 dc20 pm20 an20 cd20 ct20),sl20⟩)(c20:codeIn K cd20 "pressed"=true)(k20:keepIn K (.ref f20)=true)
  (a21:nsIn K mainGlobals "states_printed"=some (some (.ref f21)))(l21:K.lookup f21=some ⟨oc21,od21,.func (fnOf "states_printed" "states_printed" (bx (top 36)) (bh (top 36)) (aL (top 36)) .none kV21 dc21 pm21 an21 cd21 ct21),sl21⟩)(c21:codeIn K cd21 "states_printed"=true)(k21:keepIn K (.ref f21)=true)
  (a22:nsIn K mainGlobals "first_unlike"=some (some (.ref f22)))(l22:K.lookup f22=some ⟨oc22,od22,.func (fnOf "first_unlike" "first_unlike" (bx (top 37)) (bh (top 37)) (aL (top 37)) .none kV22 dc22 pm22 an22 cd22 ct22),sl22⟩)(c22:codeIn K cd22 "first_unlike"=true)(k22:keepIn K (.ref f22)=true)
  (a23:nsIn K mainGlobals "unlike_at"=some (some (.ref f23)))(l23:K.lookup f23=some ⟨oc23,od23,.func (fnOf "unlike_at" "unlike_at" (bx (top 38)) (bh (top 38)) (aL (top 38)) .none kV23 dc23 pm23 an23 cd23 ct23),sl23⟩)(c23:codeIn K cd23 "unlike_at"=true)(k23:keepIn K (.ref f23)=true)
  (a24:nsIn K mainGlobals "_law_cell_at"=some (some (.ref f24)))(l24:K.lookup f24=some ⟨oc24,od24,.func (fnOf "_law_cell_at" "_law_cell_at" (bx (top 40)) (bh (top 40)) (aL (top 40)) .none kV24 dc24 pm24 an24 cd24 ct24),sl24⟩)(c24:codeIn K cd24 "_law_cell_at"=true)(k24:keepIn K (.ref f24)=true)
  (a25:nsIn K mainGlobals "_law_window"=some (some (.ref f25)))(l25:K.lookup f25=some ⟨oc25,od25,.func (fnOf "_law_window" "_law_window" (bx (top 41)) (bh (top 41)) (aL (top 41)) .none kV25 dc25 pm25 an25 cd25 ct25),sl25⟩)(c25:codeIn K cd25 "_law_window"=true)(k25:keepIn K (.ref f25)=true)
  (a26:nsIn K mainGlobals "_law_stream"=some (some (.ref f26)))(l26:K.lookup f26=some ⟨oc26,od26,.func (fnOf "_law_stream" "_law_stream" (bx (top 42)) (bh (top 42)) (aL (top 42)) .none kV26 dc26 pm26 an26 cd26 ct26),sl26⟩)(c26:codeIn K cd26 "_law_stream"=true)(k26:keepIn K (.ref f26)=true)
  (a27:nsIn K mainGlobals "_law_words"=some (some (.ref f27)))(l27:K.lookup f27=some ⟨oc27,od27,.func (fnOf "_law_words" "_law_words" (bx (top 43)) (bh (top 43)) (aL (top 43)) .none kV27 dc27 pm27 an27 cd27 ct27),sl27⟩)(c27:codeIn K cd27 "_law_words"=true)(k27:keepIn K (.ref f27)=true)
  (a28:nsIn K mainGlobals "_law_pair"=some (some (.ref f28)))(l28:K.lookup f28=some ⟨oc28,od28,.func (fnOf "_law_pair" "_law_pair" (bx (top 44)) (bh (top 44)) (aL (top 44)) .none kV28 dc28 pm28 an28 cd28 ct28),sl28⟩)(c28:codeIn K cd28 "_law_pair"=true)(k28:keepIn K (.ref f28)=true)
  (a29:nsIn K mainGlobals "_law_ink"=some (some (.ref f29)))(l29:K.lookup f29=some ⟨oc29,od29,.func (fnOf "_law_ink" "_law_ink" (bx (top 45)) (bh (top 45)) (aL (top 45)) .none kV29 dc29 pm29 an29 cd29 ct29),sl29⟩)(c29:codeIn K cd29 "_law_ink"=true)(k29:keepIn K (.ref f29)=true)
  (a30:nsIn K mainGlobals "_law_bench"=some (some (.ref f30)))(l30:K.lookup f30=some ⟨oc30,od30,.func (fnOf "_law_bench" "_law_bench" (bx (top 46)) (bh (top 46)) (aL (top 46)) .none kV30 dc30 pm30 an30 cd30 ct30),sl30⟩)(c30:codeIn K cd30 "_law_bench"=true)(k30:keepIn K (.ref f30)=true)
  (a31:nsIn K mainGlobals "_law_size"=some (some (.ref f31)))(l31:K.lookup f31=some ⟨oc31,od31,.func (fnOf "_law_size" "_law_size" (bx (top 47)) (bh (top 47)) (aL (top 47)) .none kV31 dc31 pm31 an31 cd31 ct31),sl31⟩)(c31:codeIn K cd31 "_law_size"=true)(k31:keepIn K (.ref f31)=true)
  (a32:nsIn K mainGlobals "_law_stroke"=some (some (.ref f32)))(l32:K.lookup f32=some ⟨oc32,od32,.func (fnOf "_law_stroke" "_law_stroke" (bx (top 48)) (bh (top 48)) (aL (top 48)) .none kV32 dc32 pm32 an32 cd32 ct32),sl32⟩)(c32:codeIn K cd32 "_law_stroke"=true)(k32:keepIn K (.ref f32)=true)
  (a33:nsIn K mainGlobals "_law_plan"=some (some (.ref f33)))(l33:K.lookup f33=some ⟨oc33,od33,.func (fnOf "_law_plan" "_law_plan" (bx (top 49)) (bh (top 49)) (aL (top 49)) .none kV33 dc33 pm33 an33 cd33 ct33),sl33⟩)(c33:codeIn K cd33 "_law_plan"=true)(k33:keepIn K (.ref f33)=true)
  (a34:nsIn K mainGlobals "_law_mask"=some (some (.ref f34)))(l34:K.lookup f34=some ⟨oc34,od34,.func (fnOf "_law_mask" "_law_mask" (bx (top 50)) (bh (top 50)) (aL (top 50)) .none kV34 dc34 pm34 an34 cd34 ct34),sl34⟩)(c34:codeIn K cd34 "_law_mask"=true)(k34:keepIn K (.ref f34)=true)
  (a35:nsIn K mainGlobals "_law_prints"=some (some (.ref f35)))(l35:K.lookup f35=some ⟨oc35,od35,.func (fnOf "_law_prints" "_law_prints" (bx (top 51)) (bh (top 51)) (aL (top 51)) .none kV35 dc35 pm35 an35 cd35 ct35),sl35⟩)(c35:codeIn K cd35 "_law_prints"=true)(k35:keepIn K (.ref f35)=true)
  (a36:nsIn K mainGlobals "_law_colour"=some (some (.ref f36)))(l36:K.lookup f36=some ⟨oc36,od36,.func (fnOf "_law_colour" "_law_colour" (bx (top 52)) (bh (top 52)) (aL (top 52)) .none kV36 dc36 pm36 an36 cd36 ct36),sl36⟩)(c36:codeIn K cd36 "_law_colour"=true)(k36:keepIn K (.ref f36)=true)
  (a37:nsIn K mainGlobals "_law_pressed"=some (some (.ref f37)))(l37:K.lookup f37=some ⟨oc37,od37,.func (fnOf "_law_pressed" "_law_pressed" (bx (top 53)) (bh (top 53)) (aL (top 53)) .none kV37 dc37 pm37 an37 cd37 ct37),sl37⟩)(c37:codeIn K cd37 "_law_pressed"=true)(k37:keepIn K (.ref f37)=true)
  (a38:nsIn K mainGlobals "_law_wish"=some (some (.ref f38)))(l38:K.lookup f38=some ⟨oc38,od38,.func (fnOf "_law_wish" "_law_wish" (bx (top 54)) (bh (top 54)) (aL (top 54)) .none kV38 dc38 pm38 an38 cd38 ct38),sl38⟩)(c38:codeIn K cd38 "_law_wish"=true)(k38:keepIn K (.ref f38)=true)
  (a39:nsIn K mainGlobals "_law_due"=some (some (.ref f39)))(l39:K.lookup f39=some ⟨oc39,od39,.func (fnOf "_law_due" "_law_due" (bx (top 55)) (bh (top 55)) (aL (top 55)) .none kV39 dc39 pm39 an39 cd39 ct39),sl39⟩)(c39:codeIn K cd39 "_law_due"=true)(k39:keepIn K (.ref f39)=true)
  (a40:nsIn K mainGlobals "law"=some (some (.ref f40)))(l40:K.lookup f40=some ⟨oc40,od40,.func (fnOf "law" "law" (bx (top 56)) (bh (top 56)) (aL (top 56)) .none kV40 dc40 pm40 an40 cd40 ct40),sl40⟩)(c40:codeIn K cd40 "law"=true)(k40:keepIn K (.ref f40)=true)
  (Ni:nsIn K mainGlobals "all"=some none)(GP:nsIn K mainGlobals "bool"=some none)(GQ:nsIn K mainGlobals "dict"=some none)(ql:nsIn K mainGlobals "enumerate"=some none)(Nj:nsIn K mainGlobals "int"=some none)(ou:nsIn K mainGlobals "isinstance"=some none)(Nk:nsIn K mainGlobals "len"=some none)(GR:nsIn K mainGlobals "list"=some none)(Bk:nsIn K mainGlobals "range"=some none)(Nm:nsIn K mainGlobals "str"=some none)(Bl:nsIn K mainGlobals "tuple"=some none)(yd:nsIn K mainGlobals "COLUMN"=some (some (.str "column" t_COLUMN)))(Bm:nsIn K mainGlobals "COVER"=some (some (.str "cover" t_COVER)))(Np:nsIn K mainGlobals "CUT"=some (some (.str "cut" t_CUT)))(Bo:nsIn K mainGlobals "PRINT"=some (some (.str "print" t_PRINT)))(Nq:nsIn K mainGlobals "ROW"=some (some (.str "row" t_ROW))) :
  ∃ fd:FuncData,(∀ (s:Shared) (v:Value),BindsTo s fd ⟨[v],[]⟩ [("_law_script",v)])/\∀ base:Heap,K.In base->base.Ns mainGlobals mg->yf l.prog w K mg base CX0 7 fa fd ["_law_script"] (spM K XR0 za):=by
 have e:=hfa.symm.trans (Zae X G a40);cases e;have T:Txt mg:=⟨trivial,ZaO X G Ni,ZaO X G GP,ZaO X G GQ,ZaO X G ql,ZaO X G Nj,ZaO X G ou,ZaO X G Nk,ZaO X G GR,ZaO X G Bk,ZaO X G Nm,ZaO X G Bl,⟨_,Zae X G yd⟩,⟨_,Zae X G Bm⟩,⟨_,Zae X G Np⟩,⟨_,Zae X G Bo⟩,⟨_,Zae X G Nq⟩⟩;have F0:=bV (st:=top 4) l0 c0 k0;have D0:bj K mg "is_whole" (top 4) ["thing"]:=⟨⟨_,_,Zae X G a0,F0,F0.binds λ_ _ _ _ _ _ us hl=>by obtain⟨_,rfl⟩:=z9 hl;rfl⟩⟩
 have F1:=bV (st:=top 5) l1 c1 k1;have D1:bj K mg "place_of" (top 5) ["size","cell"]:=⟨⟨_,_,Zae X G a1,F1,F1.binds λ_ _ _ _ _ _ us hl=>by obtain⟨_,_,rfl⟩:=lX hl;rfl⟩⟩
 have F2:=bV (st:=top 6) l2 c2 k2;have D2:bj K mg "has_cell" (top 6) ["size","some","cell"]:=⟨⟨_,_,Zae X G a2,F2,F2.binds λ_ _ _ _ _ _ us hl=>by obtain⟨_,_,_,rfl⟩:=vH hl;rfl⟩⟩
 have F3:=bV (st:=top 7) l3 c3 k3;have D3:bj K mg "all_of" (top 7) ["size"]:=⟨⟨_,_,Zae X G a3,F3,F3.binds λ_ _ _ _ _ _ us hl=>by obtain⟨_,rfl⟩:=z9 hl;rfl⟩⟩
 have F4:=bV (st:=top 8) l4 c4 k4;have D4:bj K mg "set_of" (top 8) ["size","cells"]:=⟨⟨_,_,Zae X G a4,F4,F4.binds λ_ _ _ _ _ _ us hl=>by obtain⟨_,_,rfl⟩:=lX hl;rfl⟩⟩
 have F5:=bV (st:=top 10) l5 c5 k5;have D5:bj K mg "size_of" (top 10) ["picture"]:=⟨⟨_,_,Zae X G a5,F5,F5.binds λ_ _ _ _ _ _ us hl=>by obtain⟨_,rfl⟩:=z9 hl;rfl⟩⟩
 have F6:=bV (st:=top 14) l6 c6 k6;have D6:bj K mg "is_stroke" (top 14) ["thing"]:=⟨⟨_,_,Zae X G a6,F6,F6.binds λ_ _ _ _ _ _ us hl=>by obtain⟨_,rfl⟩:=z9 hl;rfl⟩⟩
 have F7:=bV (st:=top 15) l7 c7 k7;have D7:bj K mg "lines_of" (top 15) ["size","kind"]:=⟨⟨_,_,Zae X G a7,F7,F7.binds λ_ _ _ _ _ _ us hl=>by obtain⟨_,_,rfl⟩:=lX hl;rfl⟩⟩
 have F8:=bV (st:=top 16) l8 c8 k8;have D8:bj K mg "length_of" (top 16) ["size","kind"]:=⟨⟨_,_,Zae X G a8,F8,F8.binds λ_ _ _ _ _ _ us hl=>by obtain⟨_,_,rfl⟩:=lX hl;rfl⟩⟩
 have F9:=bV (st:=top 17) l9 c9 k9;have D9:bj K mg "lies_on" (top 17) ["size","thing"]:=⟨⟨_,_,Zae X G a9,F9,F9.binds λ_ _ _ _ _ _ us hl=>by obtain⟨_,_,rfl⟩:=lX hl;rfl⟩⟩
 have F10:=bV (st:=top 18) l10 c10 k10;have D10:bj K mg "stroke_cells" (top 18) ["stroke"]:=⟨⟨_,_,Zae X G a10,F10,F10.binds λ_ _ _ _ _ _ us hl=>by obtain⟨_,rfl⟩:=z9 hl;rfl⟩⟩
 have F11:=bV (st:=top 19) l11 c11 k11;have D11:bj K mg "cells_cut" (top 19) ["size","stroke"]:=⟨⟨_,_,Zae X G a11,F11,F11.binds λ_ _ _ _ _ _ us hl=>by obtain⟨_,_,rfl⟩:=lX hl;rfl⟩⟩
 have F12:=bV (st:=top 23) l12 c12 k12;have D12:bj K mg "is_number" (top 23) ["thing"]:=⟨⟨_,_,Zae X G a12,F12,F12.binds λ_ _ _ _ _ _ us hl=>by obtain⟨_,rfl⟩:=z9 hl;rfl⟩⟩
 have F13:=bV (st:=top 24) l13 c13 k13;have D13:bj K mg "is_deed" (top 24) ["size","thing"]:=⟨⟨_,_,Zae X G a13,F13,F13.binds λ_ _ _ _ _ _ us hl=>by obtain⟨_,_,rfl⟩:=lX hl;rfl⟩⟩
 have F14:=bV (st:=top 25) l14 c14 k14;have D14:bj K mg "can_follow" (top 25) ["prints","ink","many_inks"]:=⟨⟨_,_,Zae X G a14,F14,F14.binds λ_ _ _ _ _ _ us hl=>by obtain⟨_,_,_,rfl⟩:=vH hl;rfl⟩⟩
 have F15:=bV (st:=top 26) l15 c15 k15;have D15:bj K mg "replayed_with" (top 26) ["size","plan","many_inks"]:=⟨⟨_,_,Zae X G a15,F15,F15.binds λ_ _ _ _ _ _ us hl=>by obtain⟨_,_,_,rfl⟩:=vH hl;rfl⟩⟩
 have F16:=bV (st:=top 29) l16 c16 k16;have D16:bj K mg "laid" (top 29) ["ink","colour"]:=⟨⟨_,_,Zae X G a16,F16,F16.binds λ_ _ _ _ _ _ us hl=>by obtain⟨_,_,rfl⟩:=lX hl;rfl⟩⟩
 have F17:=bV (st:=top 30) l17 c17 k17;have D17:bj K mg "colour_of" (top 30) ["bench","stack"]:=⟨⟨_,_,Zae X G a17,F17,F17.binds λ_ _ _ _ _ _ us hl=>by obtain⟨_,_,rfl⟩:=lX hl;rfl⟩⟩
 have F18:=bV (st:=top 32) l18 c18 k18;have D18:bj K mg "stack_at" (top 32) ["size","states","cell"]:=⟨⟨_,_,Zae X G a18,F18,F18.binds λ_ _ _ _ _ _ us hl=>by obtain⟨_,_,_,rfl⟩:=vH hl;rfl⟩⟩
 have F19:=bV (st:=top 33) l19 c19 k19;have D19:bj K mg "pressed_row" (top 33) ["bench","size","states","row"]:=⟨⟨_,_,Zae X G a19,F19,F19.binds λ_ _ _ _ _ _ us hl=>by obtain⟨_,_,_,_,rfl⟩:=UV hl;rfl⟩⟩
 have F20:=bV (st:=top 34) l20 c20 k20;have D20:bj K mg "pressed" (top 34) ["bench","size","states"]:=⟨⟨_,_,Zae X G a20,F20,F20.binds λ_ _ _ _ _ _ us hl=>by obtain⟨_,_,_,rfl⟩:=vH hl;rfl⟩⟩
 have F21:=bV (st:=top 36) l21 c21 k21;have D21:bj K mg "states_printed" (top 36) ["many_inks","prints"]:=⟨⟨_,_,Zae X G a21,F21,F21.binds λ_ _ _ _ _ _ us hl=>by obtain⟨_,_,rfl⟩:=lX hl;rfl⟩⟩
 have F22:=bV (st:=top 37) l22 c22 k22;have D22:bj K mg "first_unlike" (top 37) ["picture","wished"]:=⟨⟨_,_,Zae X G a22,F22,F22.binds λ_ _ _ _ _ _ us hl=>by obtain⟨_,_,rfl⟩:=lX hl;rfl⟩⟩
 have F23:=bV (st:=top 38) l23 c23 k23;have D23:bj K mg "unlike_at" (top 38) ["bench","picture","plan"]:=⟨⟨_,_,Zae X G a23,F23,F23.binds λ_ _ _ _ _ _ us hl=>by obtain⟨_,_,_,rfl⟩:=vH hl;rfl⟩⟩
 have F24:=bV (st:=top 40) l24 c24 k24;have D24:bj K mg "_law_cell_at" (top 40) ["_law_script","_law_k"]:=⟨⟨_,_,Zae X G a24,F24,F24.binds λ_ _ _ _ _ _ us hl=>by obtain⟨_,_,rfl⟩:=lX hl;rfl⟩⟩
 have F25:=bV (st:=top 41) l25 c25 k25;have D25:bj K mg "_law_window" (top 41) ["_law_cell","_law_turn"]:=⟨⟨_,_,Zae X G a25,F25,F25.binds λ_ _ _ _ _ _ us hl=>by obtain⟨_,_,rfl⟩:=lX hl;rfl⟩⟩
 have F26:=bV (st:=top 42) l26 c26 k26;have D26:bj K mg "_law_stream" (top 42) ["_law_cell","_law_many"]:=⟨⟨_,_,Zae X G a26,F26,F26.binds λ_ _ _ _ _ _ us hl=>by obtain⟨_,_,rfl⟩:=lX hl;rfl⟩⟩
 have F27:=bV (st:=top 43) l27 c27 k27;have D27:bj K mg "_law_words" (top 43) ["_law_cell","_law_many"]:=⟨⟨_,_,Zae X G a27,F27,F27.binds λ_ _ _ _ _ _ us hl=>by obtain⟨_,_,rfl⟩:=lX hl;rfl⟩⟩
 have F28:=bV (st:=top 44) l28 c28 k28;have D28:bj K mg "_law_pair" (top 44) ["_law_pairs","_law_colours","_law_some"]:=⟨⟨_,_,Zae X G a28,F28,F28.binds λ_ _ _ _ _ _ us hl=>by obtain⟨_,_,_,rfl⟩:=vH hl;rfl⟩⟩
 have F29:=bV (st:=top 45) l29 c29 k29;have D29:bj K mg "_law_ink" (top 45) ["_law_name","_law_cells","_law_colours"]:=⟨⟨_,_,Zae X G a29,F29,F29.binds λ_ _ _ _ _ _ us hl=>by obtain⟨_,_,_,rfl⟩:=vH hl;rfl⟩⟩
 have F30:=bV (st:=top 46) l30 c30 k30;have D30:bj K mg "_law_bench" (top 46) ["_law_script"]:=⟨⟨_,_,Zae X G a30,F30,F30.binds λ_ _ _ _ _ _ us hl=>by obtain⟨_,rfl⟩:=z9 hl;rfl⟩⟩
 have F31:=bV (st:=top 47) l31 c31 k31;have D31:bj K mg "_law_size" (top 47) ["_law_cell"]:=⟨⟨_,_,Zae X G a31,F31,F31.binds λ_ _ _ _ _ _ us hl=>by obtain⟨_,rfl⟩:=z9 hl;rfl⟩⟩
 have F32:=bV (st:=top 48) l32 c32 k32;have D32:bj K mg "_law_stroke" (top 48) ["_law_size_here","_law_some"]:=⟨⟨_,_,Zae X G a32,F32,F32.binds λ_ _ _ _ _ _ us hl=>by obtain⟨_,_,rfl⟩:=lX hl;rfl⟩⟩
 have F33:=bV (st:=top 49) l33 c33 k33;have D33:bj K mg "_law_plan" (top 49) ["_law_script","_law_size_here","_law_many"]:=⟨⟨_,_,Zae X G a33,F33,F33.binds λ_ _ _ _ _ _ us hl=>by obtain⟨_,_,_,rfl⟩:=vH hl;rfl⟩⟩
 have F34:=bV (st:=top 50) l34 c34 k34;have D34:bj K mg "_law_mask" (top 50) ["_law_size_here","_law_stroke_here"]:=⟨⟨_,_,Zae X G a34,F34,F34.binds λ_ _ _ _ _ _ us hl=>by obtain⟨_,_,rfl⟩:=lX hl;rfl⟩⟩
 have F35:=bV (st:=top 51) l35 c35 k35;have D35:bj K mg "_law_prints" (top 51) ["_law_size_here","_law_plan_here"]:=⟨⟨_,_,Zae X G a35,F35,F35.binds λ_ _ _ _ _ _ us hl=>by obtain⟨_,_,rfl⟩:=lX hl;rfl⟩⟩
 have F36:=bV (st:=top 52) l36 c36 k36;have D36:bj K mg "_law_colour" (top 52) ["_law_bench_here","_law_stack"]:=⟨⟨_,_,Zae X G a36,F36,F36.binds λ_ _ _ _ _ _ us hl=>by obtain⟨_,_,rfl⟩:=lX hl;rfl⟩⟩
 have F37:=bV (st:=top 53) l37 c37 k37;have D37:bj K mg "_law_pressed" (top 53) ["_law_bench_here","_law_size_here","_law_prints_here"]:=⟨⟨_,_,Zae X G a37,F37,F37.binds λ_ _ _ _ _ _ us hl=>by obtain⟨_,_,_,rfl⟩:=vH hl;rfl⟩⟩
 have F38:=bV (st:=top 54) l38 c38 k38;have D38:bj K mg "_law_wish" (top 54) ["_law_script","_law_printed","_law_size_here"]:=⟨⟨_,_,Zae X G a38,F38,F38.binds λ_ _ _ _ _ _ us hl=>by obtain⟨_,_,_,rfl⟩:=vH hl;rfl⟩⟩
 have F39:=bV (st:=top 55) l39 c39 k39;have D39:bj K mg "_law_due" (top 55) ["_law_printed","_law_wish_here"]:=⟨⟨_,_,Zae X G a39,F39,F39.binds λ_ _ _ _ _ _ us hl=>by obtain⟨_,_,rfl⟩:=lX hl;rfl⟩⟩
 have F40:=bV (st:=top 56) l40 c40 k40;refine⟨fnOf "law" "law" (bx (top 56)) (bh (top 56)) (aL (top 56)) .none kV40 dc40 pm40 an40 cd40 ct40,λs v=>.of_eq rfl,λbase _ _=>?_⟩;have G0:=DW (P:=l.prog) (w:=w) (base:=base) T D0;have G1:=DY (P:=l.prog) (w:=w) (base:=base) T D1;have G2:=Eb (P:=l.prog) (w:=w) (base:=base) T D2 G1;have G3:=J3 (P:=l.prog) (w:=w) (base:=base) T D3;have G4:=J4 (P:=l.prog) (w:=w) (base:=base) T D4 G1;have G5:=Gq (P:=l.prog) (w:=w) (base:=base) T D5;have G6:=Aq (P:=l.prog) (w:=w) (base:=base) T D6 G0;have G7:=Ed (P:=l.prog) (w:=w) (base:=base) T D7;have G8:=Av (P:=l.prog) (w:=w) (base:=base) T D8;have G9:=Gs (P:=l.prog) (w:=w) (base:=base) T D9 G6 G7 G8;have G10:=vK (P:=l.prog) (w:=w) (base:=base) T D10;have G11:=Ax (P:=l.prog) (w:=w) (base:=base) T D11 G4 G10;have G12:=Az (P:=l.prog) (w:=w) (base:=base) T D12 G0;have G13:=Gv (P:=l.prog) (w:=w) (base:=base) T D13 G12 G9;have G14:=yq (P:=l.prog) (w:=w) (base:=base) T D14;have G15:=uW (P:=l.prog) (w:=w) (base:=base) T D15 G13 G3 G11 G14;have G16:=Ql (P:=l.prog) (w:=w) (base:=base) T D16;have G17:=Bb (P:=l.prog) (w:=w) (base:=base) T D17 G16;have G18:=Eg (P:=l.prog) (w:=w) (base:=base) T D18 G2;have G19:=xW (P:=l.prog) (w:=w) (base:=base) T D19 G17 G18;have G20:=Gx (P:=l.prog) (w:=w) (base:=base) T D20 G19;have G21:=uo (P:=l.prog) (w:=w) (base:=base) T D21;have G22:=vL (P:=l.prog) (w:=w) (base:=base) T D22;have G23:=Bc (P:=l.prog) (w:=w) (base:=base) T D23 G5 G15 G22 G20 G21;have G24:=Be (P:=l.prog) (w:=w) (base:=base) T D24;have G25:=Eh (P:=l.prog) (w:=w) (base:=base) T D25;have G26:=Ei (P:=l.prog) (w:=w) (base:=base) T D26;have G27:=Gy (P:=l.prog) (w:=w) (base:=base) T D27 G26;have G28:=J5 (P:=l.prog) (w:=w) (base:=base) T D28;have G29:=M8 (P:=l.prog) (w:=w) (base:=base) T D29 G26 G28;have G30:=Gz (P:=l.prog) (w:=w) (base:=base) T D30 G26 G24 G27 G29;have G31:=J6 (P:=l.prog) (w:=w) (base:=base) T D31 G26 G25;have G32:=Ej (P:=l.prog) (w:=w) (base:=base) T D32;have G33:=J7 (P:=l.prog) (w:=w) (base:=base) T D33 G26 G25 G32;have G34:=J8 (P:=l.prog) (w:=w) (base:=base) T D34;have G35:=Ek (P:=l.prog) (w:=w) (base:=base) T D35 G34;have G36:=El (P:=l.prog) (w:=w) (base:=base) T D36;have G37:=Bf (P:=l.prog) (w:=w) (base:=base) T D37 G36;have G38:=J9 (P:=l.prog) (w:=w) (base:=base) T D38 G26 G25 G24 G27;have G39:=M9 (P:=l.prog) (w:=w) (base:=base) T D39;exact Sx (P:=l.prog) (w:=w) (base:=base) T F40 G30 G31 G24 G33 G37 G35 G38 G39 G23
theorem walk{l:PySem.W.OpenLaw}{q:Program}{loose:List Str}{XP:(Str->Option Value)->Heap->Prop}{YP:World->Heap->Prop}{d:DefRec}{K:Params->Frag}(hn:l.most=some 63)(hdf:d.params.defaults=[])
  (hY:∀ (w:World) (h:Heap),YP w h->(K w.params).In h)
  (F:∀ (w:World) (mg:Str->Option Value) (fa:Addr) (h:Heap),(K w.params).In h->h.Ns mainGlobals mg->mg d.name=some (.ref fa) ->
   ∃ fd:FuncData,(∀ (s:Shared) (u:Value),BindsTo s fd ⟨[u],[]⟩ [("_law_script",u)])/\∀ base:Heap,(K w.params).In base->base.Ns mainGlobals mg->yf l.prog w (K w.params) mg base CX0 7 fa fd ["_law_script"] (spM (K w.params) XR0 za))
  (main:∀ ns:List Int,ns.length<=63->za [.lst (ns.map PV.int)]=some (.ok (.bl true))) :
  PySem.W.WalkO q loose XP YP l.row.toRowW d [] (λf vs=>PySem.call f vs):=
 L2.N6 (n:=63) (k:=7) (x:="_law_script") (CX:=λ_=>CX0) (sp:=λw=>spM (K w.params) XR0 za) hn (by decide) hdf ⟨rfl,by decide,by decide⟩ hY F (λw H a ns hl _ hS=>⟨[.lst (ns.map PV.int)],H,.ok (.bl true),bf.refl _,bW.nil.cons (.lst hS (bW.zJ (K:=K w.params) (F:=H) ns).1 (bW.zJ ns).2),main ns hl,λv F' H' _ rv=>Rep.fY rv⟩) λ_ _ _ _ _ z=>z
end MM
open PySem PySem.W PyProof.Rows
set_option maxRecDepth 100000 in
set_option maxHeartbeats 0 in
theorem PySem.Challenge.cw_lostblock_k42_whole_plans_held_holds : PySem.Challenge.rw_lostblock_k42_whole_plans_held.Holds := by
 w_on;o_law;o_head (kHook MM.KK [3,52,53,59,60,66,67,73,74,80,81,87,88,92,93,99,100,106,107,113,114,118,119,125,126,132,133,139,140,146,147,153,154,160,161,167,168,172,173,177,178,182,183,187,188,194,195,201,202,208,209,215,216,222,223,227,228,232,233,239,240,246,247,251,252,258,259,265,266,272,273,279,280,286,287,291,292,296,297,303,304,308,309] (λ_=>by kernel_rfl));(case hw=>w_witness2)
 k_fill
 refine MM.walk (l:=PySem.Challenge.rw_lostblock_k42_whole_plans_held) rfl rfl (λw h Y=>PySem.W.kIn_of Y) ?F MM.law_main
 case F=>
  intro w mg fa h KX G hmg;refine' MM.Sy KX G hmg ?a0 ?l0 ?c0 ?k0 ?a1 ?l1 ?c1 ?k1 ?a2 ?l2 ?c2 ?k2 ?a3 ?l3 ?c3 ?k3 ?a4 ?l4 ?c4 ?k4 ?a5 ?l5 ?c5 ?k5 ?a6 ?l6 ?c6 ?k6 ?a7 ?l7 ?c7 ?k7 ?a8 ?l8 ?c8 ?k8 ?a9 ?l9 ?c9 ?k9 ?a10 ?l10 ?c10 ?k10 ?a11 ?l11 ?c11 ?k11 ?a12 ?l12 ?c12 ?k12 ?a13 ?l13 ?c13 ?k13 ?a14 ?l14 ?c14 ?k14 ?a15 ?l15 ?c15 ?k15 ?a16 ?l16 ?c16 ?k16 ?a17 ?l17 ?c17 ?k17 ?a18 ?l18 ?c18 ?k18 ?a19 ?l19 ?c19 ?k19 ?a20 ?l20 ?c20 ?k20 ?a21 ?l21 ?c21 ?k21 ?a22 ?l22 ?c22 ?k22 ?a23 ?l23 ?c23 ?k23 ?a24 ?l24 ?c24 ?k24 ?a25 ?l25 ?c25 ?k25 ?a26 ?l26 ?c26 ?k26 ?a27 ?l27 ?c27 ?k27 ?a28 ?l28 ?c28 ?k28 ?a29 ?l29 ?c29 ?k29 ?a30 ?l30 ?c30 ?k30 ?a31 ?l31 ?c31 ?k31 ?a32 ?l32 ?c32 ?k32 ?a33 ?l33 ?c33 ?k33 ?a34 ?l34 ?c34 ?k34 ?a35 ?l35 ?c35 ?k35 ?a36 ?l36 ?c36 ?k36 ?a37 ?l37 ?c37 ?k37 ?a38 ?l38 ?c38 ?k38 ?a39 ?l39 ?c39 ?k39 ?a40 ?l40 ?c40 ?k40 ?Ni ?GP ?GQ ?ql ?Nj ?ou ?Nk ?GR ?Bk ?Nm ?Bl ?yd ?Bm ?Np ?Bo ?Nq
  (case a0=>k_is)
  (case l0=>k_is)
  (case c0=>k_is)
  (case k0=>k_is)
  (case a1=>k_is)
  (case l1=>k_is)
  (case c1=>k_is)
  (case k1=>k_is)
  (case a2=>k_is)
  (case l2=>k_is)
  (case c2=>k_is)
  (case k2=>k_is)
  (case a3=>k_is)
  (case l3=>k_is)
  (case c3=>k_is)
  (case k3=>k_is)
  (case a4=>k_is)
  (case l4=>k_is)
  (case c4=>k_is)
  (case k4=>k_is)
  (case a5=>k_is)
  (case l5=>k_is)
  (case c5=>k_is)
  (case k5=>k_is)
  (case a6=>k_is)
  (case l6=>k_is)
  (case c6=>k_is)
  (case k6=>k_is)
  (case a7=>k_is)
  (case l7=>k_is)
  (case c7=>k_is)
  (case k7=>k_is)
  (case a8=>k_is)
  (case l8=>k_is)
  (case c8=>k_is)
  (case k8=>k_is)
  (case a9=>k_is)
  (case l9=>k_is)
  (case c9=>k_is)
  (case k9=>k_is)
  (case a10=>k_is)
  (case l10=>k_is)
  (case c10=>k_is)
  (case k10=>k_is)
  (case a11=>k_is)
  (case l11=>k_is)
  (case c11=>k_is)
  (case k11=>k_is)
  (case a12=>k_is)
  (case l12=>k_is)
  (case c12=>k_is)
  (case k12=>k_is)
  (case a13=>k_is)
  (case l13=>k_is)
  (case c13=>k_is)
  (case k13=>k_is)
  (case a14=>k_is)
  (case l14=>k_is)
  (case c14=>k_is)
  (case k14=>k_is)
  (case a15=>k_is)
  (case l15=>k_is)
  (case c15=>k_is)
  (case k15=>k_is)
  (case a16=>k_is)
  (case l16=>k_is)
  (case c16=>k_is)
  (case k16=>k_is)
  (case a17=>k_is)
  (case l17=>k_is)
  (case c17=>k_is)
  (case k17=>k_is)
  (case a18=>k_is)
  (case l18=>k_is)
  (case c18=>k_is)
  (case k18=>k_is)
  (case a19=>k_is)
  (case l19=>k_is)
  (case c19=>k_is)
  (case k19=>k_is)
  (case a20=>k_is)
  (case l20=>k_is)
  (case c20=>k_is)
  (case k20=>k_is)
  (case a21=>k_is)
  (case l21=>k_is)
  (case c21=>k_is)
  (case k21=>k_is)
  (case a22=>k_is)
  (case l22=>k_is)
  (case c22=>k_is)
  (case k22=>k_is)
  (case a23=>k_is)
  (case l23=>k_is)
  (case c23=>k_is)
  (case k23=>k_is)
  (case a24=>k_is)
  (case l24=>k_is)
  (case c24=>k_is)
  (case k24=>k_is)
  (case a25=>k_is)
  (case l25=>k_is)
  (case c25=>k_is)
  (case k25=>k_is)
  (case a26=>k_is)
  (case l26=>k_is)
  (case c26=>k_is)
  (case k26=>k_is)
  (case a27=>k_is)
  (case l27=>k_is)
  (case c27=>k_is)
  (case k27=>k_is)
  (case a28=>k_is)
  (case l28=>k_is)
  (case c28=>k_is)
  (case k28=>k_is)
  (case a29=>k_is)
  (case l29=>k_is)
  (case c29=>k_is)
  (case k29=>k_is)
  (case a30=>k_is)
  (case l30=>k_is)
  (case c30=>k_is)
  (case k30=>k_is)
  (case a31=>k_is)
  (case l31=>k_is)
  (case c31=>k_is)
  (case k31=>k_is)
  (case a32=>k_is)
  (case l32=>k_is)
  (case c32=>k_is)
  (case k32=>k_is)
  (case a33=>k_is)
  (case l33=>k_is)
  (case c33=>k_is)
  (case k33=>k_is)
  (case a34=>k_is)
  (case l34=>k_is)
  (case c34=>k_is)
  (case k34=>k_is)
  (case a35=>k_is)
  (case l35=>k_is)
  (case c35=>k_is)
  (case k35=>k_is)
  (case a36=>k_is)
  (case l36=>k_is)
  (case c36=>k_is)
  (case k36=>k_is)
  (case a37=>k_is)
  (case l37=>k_is)
  (case c37=>k_is)
  (case k37=>k_is)
  (case a38=>k_is)
  (case l38=>k_is)
  (case c38=>k_is)
  (case k38=>k_is)
  (case a39=>k_is)
  (case l39=>k_is)
  (case c39=>k_is)
  (case k39=>k_is)
  (case a40=>k_is)
  (case l40=>k_is)
  (case c40=>k_is)
  (case k40=>k_is)
  (case Ni=>k_is)
  (case GP=>k_is)
  (case GQ=>k_is)
  (case ql=>k_is)
  (case Nj=>k_is)
  (case ou=>k_is)
  (case Nk=>k_is)
  (case GR=>k_is)
  (case Bk=>k_is)
  (case Nm=>k_is)
  (case Bl=>k_is)
  (case yd=>k_is)
  (case Bm=>k_is)
  (case Np=>k_is)
  (case Bo=>k_is)
  (case Nq=>k_is)
#print axioms PySem.Challenge.cw_lostblock_k42_whole_plans_held_holds
