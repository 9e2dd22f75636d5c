import PyProof.Rows.All
import Wide.All
import OpenK.AllK
import Wide.FinOn
import Lean
import PyProof.EqAt
import PyProof.EqKinds
import PyProof.TupleCall
import KE.BitLaws
import KE.KMinKey
import PySem.Challenge.RW_lampforge_k15_boxes_all_at_once
set_option genSizeOfSpec false
noncomputable section
set_option Elab.async false
set_option linter.all false
set_option maxRecDepth 100000
namespace L2
open PySem PySem.Spec PyProof.Rows
abbrev Key:=Sum Int Str
def keyIs:Key->Value->Bool
 | .inl k,v=>Value.isInt k v
 | .inr x,v=>Value.isStrOf x v
def keyH(w:World):Key->Int
 | .inl k=>hashInt k
 | .inr x=>hashStr w x
theorem y_l:∀ {k:Key} {v:Value},keyIs k v=true->(∃ i t,k=Sum.inl i/\v=Value.int i t)\/(∃ x t,k=Sum.inr x/\v=Value.str x t)
 | .inl i,v,h=>by
  obtain ⟨t,e⟩:=Value.isInt_shape (k:=i) (v:=v) h
  exact .inl ⟨i,t,rfl,e⟩
 | .inr x,v,h=>by
  obtain ⟨t,e⟩:=Value.isStrOf_shape (x:=x) (v:=v) h
  exact .inr ⟨x,t,rfl,e⟩
theorem keyIs_int(i:Int)(t:Tok):keyIs (.inl i) (.int i t)=true:=by simp [keyIs,Value.isInt]
theorem keyIs_str(x:Str)(t:Tok):keyIs (.inr x) (.str x t)=true:=by simp [keyIs,Value.isStrOf]
theorem key_ll(a b:Int):decide ((Sum.inl a:Key)=Sum.inl b)=(a == b):=by
 by_cases e:a=b
 ·subst e;simp
 ·have h:¬(Sum.inl a:Key)=Sum.inl b:=fun q=>e (Sum.inl.inj q)
  rw [decide_eq_false h]
  exact (beq_eq_false_iff_ne.mpr e).symm
theorem key_rr(a b:Str):decide ((Sum.inr a:Key)=Sum.inr b)=decide (a=b):=by
 by_cases e:a=b
 ·subst e;simp
 ·have h:¬(Sum.inr a:Key)=Sum.inr b:=fun q=>e (Sum.inr.inj q)
  rw [decide_eq_false h,decide_eq_false e]
theorem key_lr(a:Int)(b:Str):decide ((Sum.inl a:Key)=Sum.inr b)=false:=decide_eq_false (fun q=>nomatch q)
theorem key_rl(a:Str)(b:Int):decide ((Sum.inr a:Key)=Sum.inl b)=false:=decide_eq_false (fun q=>nomatch q)
def mixKind(prog:Program)(w:World):PySem.KeyKind prog w Key where
 is:=keyIs
 hash:=keyH w
 inj:=fun v a b ha hb=>by
  rcases y_l ha with ⟨i,t,rfl,rfl⟩ | ⟨x,t,rfl,rfl⟩
  ·rcases y_l hb with ⟨j,u,rfl,e⟩ | ⟨y,u,rfl,e⟩
   ·injection e with e1 _;rw [e1]
   ·exact nomatch e
  ·rcases y_l hb with ⟨j,u,rfl,e⟩ | ⟨y,u,rfl,e⟩
   ·exact nomatch e
   ·injection e with e1 _;rw [e1]
 byValue:=fun k v h=>by
  rcases y_l h with ⟨i,t,rfl,rfl⟩ | ⟨x,t,rfl,rfl⟩<;>rfl
 pyHash:=fun hv h=>by
  rcases y_l hv with ⟨i,t,rfl,rfl⟩ | ⟨x,t,rfl,rfl⟩
  ·exact wpAny_pyHash_int h
  ·exact wpAny_pyHash_str h
 eqBool:=fun hu hv h=>by
  rcases y_l hu with ⟨i,t,rfl,rfl⟩ | ⟨x,t,rfl,rfl⟩
  ·rcases y_l hv with ⟨j,u,rfl,rfl⟩ | ⟨y,u,rfl,rfl⟩
   ·rw [key_ll] at h;exact wpAny_eqBool_int h
   ·rw [key_lr] at h;exact SeqAt.EqAt.int_str i t y u _ _ _ _ h
  ·rcases y_l hv with ⟨j,u,rfl,rfl⟩ | ⟨y,u,rfl,rfl⟩
   ·rw [key_rl] at h;exact SeqAt.EqAt.str_int x t j u _ _ _ _ h
   ·rw [key_rr] at h;exact wpAny_eqBool_str h
 «strs» := fun k x t v h=>by
  rcases y_l h with ⟨i,u,rfl,e⟩ | ⟨y,u,rfl,e⟩
  ·exact nomatch e
  ·injection e with e1 _
   subst e1
   cases v<;>rfl
theorem mixKind_int(prog:Program)(w:World)(i:Int)(t:Tok):(mixKind prog w).is (.inl i) (.int i t)=true:=keyIs_int i t
theorem mixKind_str(prog:Program)(w:World)(x:Str)(t:Tok):(mixKind prog w).is (.inr x) (.str x t)=true:=keyIs_str x t
inductive V where
 | non | bl (b:Bool) | int (i:Int) | str (x:Str) | byt (b:Array UInt8) | flt (b:UInt64) | ref (a:Addr) | ty (n:String)
 deriving DecidableEq
def RelV:V->Value->Prop
 | .non,u=>u=Value.none
 | .bl b,u=>u=Value.bool b
 | .int i,u=>∃ t,u=Value.int i t
 | .str x,u=>∃ t,u=Value.str x t
 | .byt b,u=>∃ t,u=Value.bytes b t
 | .flt b,u=>∃ t,u=Value.float b t
 | .ref a,u=>u=Value.ref a
 | .ty n,u=>u=Value.type n
abbrev Vals:List V->List Value->Prop:=Paired RelV
theorem Vals.length{xs:List V}{us:List Value}(r:Vals xs us):xs.length=us.length:=Paired.length r
theorem Vals.get:∀ {xs:List V} {us:List Value} {i:Nat} {x:V},Vals xs us->xs[i]? = some x->∃ u,us[i]? = some u/\RelV x u
 | _,_,_,_,.nil,e=>by simp at e
 | _,_,0,_,.cons r _,e=>by simp at e;subst e;exact ⟨_,rfl,r⟩
 | _,_,i+1,x,.cons _ t,e=>by
  obtain ⟨u,h1,h2⟩:=Vals.get (i:=i) (x:=x) t (by simpa using e)
  exact ⟨u,by simpa using h1,h2⟩
theorem Vals.set{x:V}{u:Value}(r:RelV x u):∀ {xs:List V} {us:List Value} (i:Nat),Vals xs us->Vals (xs.set i x) (us.set i u)
 | _,_,_,.nil=>.nil
 | _,_,0,.cons _ t=>.cons r t
 | _,_,i+1,.cons q t=>.cons q (Vals.set r i t)
theorem Vals.append:∀ {xs ys:List V} {us ws:List Value},Vals xs us->Vals ys ws->Vals (xs++ys) (us++ws)
 | _,_,_,_,.nil,s=>s
 | _,_,_,_,.cons r t,s=>.cons r (Vals.append t s)
theorem Vals.take:∀ {xs:List V} {us:List Value} (n:Nat),Vals xs us->Vals (xs.take n) (us.take n)
 | _,_,0,_=>.nil
 | _,_,_+1,.nil=>.nil
 | _,_,n+1,.cons r t=>.cons r (Vals.take n t)
theorem Vals.drop:∀ {xs:List V} {us:List Value} (n:Nat),Vals xs us->Vals (xs.drop n) (us.drop n)
 | _,_,0,r=>r
 | _,_,_+1,.nil=>.nil
 | _,_,n+1,.cons _ t=>Vals.drop n t
def RelO:Option V->Option Value->Prop
 | some v,some u=>RelV v u
 | none,none=>True
 | _,_=>False
def KV{κ:Type}:List (κ×V)->List (κ×Value)->Prop:=Paired fun (p:κ×V) (q:κ×Value)=>p.1=q.1/\RelV p.2 q.2
def kV:Key->V
 | .inl i=>.int i
 | .inr x=>.str x
inductive HO where
 | lst (xs:List V)
 | tup (xs:List V)
 | dK (kvs:List (Key×V)) | dT (kvs:List (List Key×V))
 | set (S:Int->Bool) (n:Nat)
 | ins (C dx:Addr) (fs:List (Str×V))
 | own (x:Addr)
 | xd (fs:List (Str×V))
 | met (f x:Addr)
 | rng (lo hi:Int)
 | frz (o:Obj) (u:HO)
 | tbl (pos:Pos) (qual:Str)
 | ext (φ:Heap->Prop)
abbrev Hp:=Addr->Option HO
def upd(H:Hp)(a:Addr)(o:HO):Hp:=fun b=>if b=a then some o else H b
theorem z_c{H:Hp}{a:Addr}{o:HO}:upd H a o a=some o:=by unfold upd;rw [if_pos rfl]
theorem z_s{H:Hp}{a b:Addr}{o:HO}(h:b≠a):upd H a o b=H b:=by unfold upd;rw [if_neg h]
theorem ne_of{H:Hp}{a b:Addr}{o u:HO}(h:H a=some o)(h':H b=some u)(d:o≠u):a≠b:=by
 intro e;subst e;rw [h] at h';exact d (Option.some.inj h')
theorem z_n{H:Hp}{a b:Addr}{o:HO}(h:H a=some o)(h':H b=none):a≠b:=by
 intro e;subst e;rw [h] at h';cases h'
section
variable (P:Program) (w:World)
def ObjOk(H:Hp)(h:Heap)(a:Addr):HO->Prop
 | .lst xs=>xs.length<=sizeLine/\∃ (its:List Value) (n:Nat),Vals xs its/\h.get? a=some { cls:=.type "list",data:=.seq its.toArray n }
 | .tup xs=>xs.length<=sizeLine/\∃ its:List Value,Vals xs its/\IsTup h a its.toArray
 | .dK kvs=>kvs.length<=sizeLine/\(a == sysModules)=false/\∃ vs,KV kvs vs/\h.DictOf (mixKind P w) a vs
 | .dT kvs=>kvs.length<=sizeLine/\(a == sysModules)=false/\∃ xs:List (List Key×Addr×Value),
   Paired (fun (p:List Key×V) (q:List Key×Addr×Value)=>p.1=q.1/\H q.2.1=some (.tup (p.1.map kV))/\RelV p.2 q.2.2) kvs xs /\
   ∃ o es ep,h.get? a=some o/\o.ExactDict/\o.data = .dict es ep/\es.toList=xs.map (entryOfKey (tupleKind (mixKind P w)))/\(xs.map (·.1)).Nodup
 | .set S n=>h.SetOf (intKind P w) a S n
 | .ins C dx fs=>H dx=some (.own a)/\fs.length<=1000/\dx≠a/\h.get? a=some (PySem.W.instObj C dx) /\
   ∃ mA,h.Ns1 dx mA/\(∀ f,RelO (fs.lookup f) (mA f))/\PySem.Within mA (fs.map (·.1))
 | .own _=>∃ o,h.get? a=some o
 | .xd fs=>∃ mA,h.Ns1 a mA/\∀ f,RelO (fs.lookup f) (mA f)
 | .rng lo hi=>∃ t u v,h.get? a=some { cls:=.type "range",data:=.fields #[.int lo t,.int hi u,.int 1 v] }
 | .frz o u=>h.get? a=some o/\ObjOk H h a u
 | .tbl pos qual=>∃ ps:Array Value,h.get? a=some { cls:=.none,data:=.fields ps }/\TriplesOk ps.toList/\(codeAmong pos ps.toList=none\/∃ c oc vs tq,codeAmong pos ps.toList=some (.ref c)/\H c=some (.frz oc (.own a))/\oc.data = .fields vs/\vs[1]? = some (.str qual tq))
 | .met f x=>h.get? a=some (PySem.W.methodObj (.ref f) (.ref x))
 | .ext φ=>φ h/\(∃ o,h.get? a=some o)/\∀ h1 h2:Heap,φ h1->(∀ o,h1.get? a=some o->h2.get? a=some o)->φ h2
def HOk(H:Hp)(h:Heap):Prop:=∀ a o,H a=some o->ObjOk P w H h a o
end
section
variable {P:Program} {w:World} {H H':Hp} {h h':Heap} {a:Addr} {o:HO}
theorem ObjOk.lt(x:ObjOk P w H h a o):a<h.objs.size:=by
 cases o with
 | lst xs=>obtain ⟨_,_,_,_,e⟩:=x;exact Heap.lt_size e
 | tup xs=>obtain ⟨_,_,_,p⟩:=x;exact p.lt
 | dK kvs=>obtain ⟨_,_,_,_,o,_,_,e,_⟩:=x;exact Heap.lt_size e
 | dT kvs=>obtain ⟨_,_,_,_,o,_,_,e,_⟩:=x;exact Heap.lt_size e
 | set S n=>obtain ⟨o,_,_,_,e,_⟩:=x;exact Heap.lt_size e
 | ins C dx fs=>obtain ⟨_,_,_,e,_⟩:=x;exact Heap.lt_size e
 | own y=>obtain ⟨_,e⟩:=x;exact Heap.lt_size e
 | xd fs=>obtain ⟨_,⟨_,_,_,e,_⟩,_⟩:=x;exact Heap.lt_size e
 | rng lo hi=>obtain ⟨_,_,_,e⟩:=x;exact Heap.lt_size e
 | frz ob u=>obtain ⟨e,_⟩:=x;exact Heap.lt_size e
 | tbl pos qual=>obtain ⟨_,e,_⟩:=x;exact Heap.lt_size e
 | met f y=>exact Heap.lt_size (show h.get? a=some _ from x)
 | ext φ=>obtain ⟨_,⟨_,e⟩,_⟩:=x;exact Heap.lt_size e
theorem Paired.mapP{α β:Type}{F G:α->β->Prop}:∀ {l₁:List α} {l₂:List β},Paired F l₁ l₂->(∀ a b,F a b->G a b)->Paired G l₁ l₂
 | _,_,.nil,_=>.nil
 | _,_,.cons r t,f=>.cons (f _ _ r) (Paired.mapP t f)
theorem ObjOk.stay(x:ObjOk P w H h a o)(k:∀ b u,(b=a\/H b=some (.own a))->h.get? b=some u->h'.get? b=some u)
  (ho:∀ b,H b=some (.own a)->H' b=some (.own a)) (ht:∀ b xs,H b=some (.tup xs)->H' b=some (.tup xs)) (hz:∀ b o u,H b=some (.frz o u)->H' b=some (.frz o u)):ObjOk P w H' h' a o:=by
 induction o with
 | lst xs=>obtain ⟨z,its,n,r,e⟩:=x;exact ⟨z,its,n,r,k _ _ (.inl rfl) e⟩
 | tup xs=>obtain ⟨z,its,r,ob,e,c⟩:=x;exact ⟨z,its,r,ob,k _ _ (.inl rfl) e,c⟩
 | dK kvs=>obtain ⟨z,y,vs,r,ob,es,ep,e,c⟩:=x;exact ⟨z,y,vs,r,ob,es,ep,k _ _ (.inl rfl) e,c⟩
 | dT kvs =>
  obtain ⟨z,y,xs,r,ob,es,ep,e,c⟩:=x
  exact ⟨z,y,xs,Paired.mapP r fun p q z=>⟨z.1,ht _ _ z.2.1,z.2.2⟩,ob,es,ep,k _ _ (.inl rfl) e,c⟩
 | set S n=>obtain ⟨ob,es,ep,t,e,c⟩:=x;exact ⟨ob,es,ep,t,k _ _ (.inl rfl) e,c⟩
 | ins C dx fs =>
  obtain ⟨d,z,ne,e,mA,⟨od,es,ep,e2,c⟩,r⟩:=x
  exact ⟨ho _ d,z,ne,k _ _ (.inl rfl) e,mA,⟨od,es,ep,k _ _ (.inr d) e2,c⟩,r⟩
 | own y=>obtain ⟨ob,e⟩:=x;exact ⟨ob,k _ _ (.inl rfl) e⟩
 | xd fs=>obtain ⟨mA,⟨od,es,ep,e,c⟩,r⟩:=x;exact ⟨mA,⟨od,es,ep,k _ _ (.inl rfl) e,c⟩,r⟩
 | rng lo hi=>obtain ⟨t,u,v,e⟩:=x;exact ⟨t,u,v,k _ _ (.inl rfl) e⟩
 | frz ob u ih=>obtain ⟨e,q⟩:=x;exact ⟨k _ _ (.inl rfl) e,ih q⟩
 | tbl pos qual =>
  obtain ⟨ps,e,t,c⟩:=x
  refine ⟨ps,k a _ (.inl rfl) e,t,?_⟩
  rcases c with c | ⟨c,oc,vs,tq,c1,c2,c3⟩
  ·exact .inl c
  ·exact .inr ⟨c,oc,vs,tq,c1,hz _ _ _ c2,c3⟩
 | met f y =>
  have e:h.get? a=some (PySem.W.methodObj (.ref f) (.ref y)):=x
  show h'.get? a=some (PySem.W.methodObj (.ref f) (.ref y))
  exact k a _ (.inl rfl) e
 | ext φ=>obtain ⟨p,⟨o,e⟩,st⟩:=x;exact ⟨st _ _ p fun o q=>k _ _ (.inl rfl) q,⟨o,k _ _ (.inl rfl) e⟩,st⟩
theorem HOk.lt(x:HOk P w H h)(e:H a=some o):a<h.objs.size:=(x a o e).lt
theorem HOk.fresh(x:HOk P w H h)(e:h.objs.size<=a):H a=none:=by
 cases q:H a with
 | none=>rfl
 | some u=>exact absurd (Nat.lt_of_lt_of_le (x.lt q) e) (Nat.lt_irrefl _)
theorem HOk.kept(x:HOk P w H h)(k:∀ b u,h.get? b=some u->h'.get? b=some u):HOk P w H h':=fun a o e =>
 (x a o e).stay (fun b u _ q=>k b u q) (fun _ q=>q) (fun _ _ q=>q) fun _ _ _ q=>q
theorem HOk.laid(x:HOk P w H h)(k:∀ b u,h.get? b=some u->h'.get? b=some u)(hp:h.objs.size<=a)(new:ObjOk P w (upd H a o) h' a o):HOk P w (upd H a o) h':=fun b u e=>by
 have hn:=x.fresh hp
 by_cases hb:b=a
 ·subst hb;rw [z_c] at e;cases e;exact new
 ·rw [z_s hb] at e
  exact (x b u e).stay (fun c v _ q=>k c v q) (fun c q=>by rw [z_s (z_n q hn)];exact q) (fun c xs q=>by rw [z_s (z_n q hn)];exact q) fun c ob xs q=>by rw [z_s (z_n q hn)];exact q
end
def Rd(H:Hp)(a:Addr)(u:HO):Prop:=H a=some u\/∃ o,H a=some (.frz o u)
theorem Rd.ok{P:Program}{w:World}{H:Hp}{h:Heap}{a:Addr}{u:HO}(r:Rd H a u)(x:HOk P w H h):ObjOk P w H h a u:=by
 rcases r with r | ⟨o,r⟩
 ·exact x a u r
 ·obtain ⟨_,q⟩:=x a _ r
  exact q
def Mut:Option HO->Prop
 | some (.lst _)=>True
 | some (.dK _)=>True
 | some (.dT _)=>True
 | some (.set _ _)=>True
 | some (.ins _ _ _)=>True
 | some (.ext _)=>True
 | _=>False
section
variable {P:Program} {w:World} {H:Hp} {h h':Heap} {x e:Addr} {o':HO}
theorem HOk.write(ok:HOk P w H h)(mu:Mut (H x))(he:e=x\/H e=some (.own x))(k:∀ b u,b≠e->h.get? b=some u->h'.get? b=some u)(heo:∃ u,h'.get? e=some u)
  (new:ObjOk P w (upd H x o') h' x o'):HOk P w (upd H x o') h':=fun b u q=>by
 have nown:∀ c y,H c=some (.own y)->c≠x:=fun c y r z=>by subst z;rw [r] at mu;exact mu
 have ntup:∀ c xs,H c=some (.tup xs)->c≠x:=fun c xs r z=>by subst z;rw [r] at mu;exact mu
 by_cases hb:b=x
 ·subst hb;rw [z_c] at q;cases q;exact new
 ·rw [z_s hb] at q
  by_cases hbe:b=e
  ·have q':H b=some (.own x):=by
    rcases he with z | z
    ·exact absurd (hbe.trans z) hb
    ·rw [hbe];exact z
   rw [q] at q';cases q'
   obtain ⟨v,hv⟩:=heo
   exact ⟨v,by rw [hbe];exact hv⟩
  ·refine (ok b u q).stay (fun c v hc r=>k c v ?_ r) (fun c r=>by rw [z_s (nown c b r)];exact r) (fun c xs r=>by rw [z_s (ntup c xs r)];exact r) fun c ob xs r=>by rw [z_s (fun z=>by subst z;rw [r] at mu;exact mu)];exact r
   rcases hc with rfl | hc
   ·exact hbe
   ·rintro rfl
    rcases he with z | z
    ·exact nown c b hc z
    ·rw [hc] at z;cases z;exact hb rfl
end
structure Un(fs ex:List Addr)(H H':Hp)(h h':Heap):Prop where
 keep:∀ b o,h.get? b=some o->H b=none->b∉fs->b∉ex->h'.get? b=some o
 slot:∀ b o,h.get? b=some o->H b=none->b∈fs->b∉ex->∃ sl,h'.get? b=some { o with slots:=sl }
 free:∀ b o,h.get? b=some o->H b=none->b∉ex->H' b=none
 there:∀ b o,h.get? b=some o->b∉ex->∃ o',h'.get? b=some o'
 tups:∀ b xs,H b=some (.tup xs)->H' b=some (.tup xs)
 frzs:∀ b o u,H b=some (.frz o u)->H' b=some (.frz o u)
 tbls:∀ b p q,H b=some (.tbl p q)->H' b=some (.tbl p q)
section
variable {fs fs' ex ex':List Addr} {H H1 H2:Hp} {h h1 h2 h':Heap} {a x e:Addr} {o:HO}
theorem Un.any(u:Un fs ex H H1 h h1){b:Addr}{ob:Obj}(q:h.get? b=some ob)(n:H b=none)(hx:b∉ex):∃ sl,h1.get? b=some { ob with slots:=sl }:=by
 by_cases hb:b∈fs
 ·exact u.slot b ob q n hb hx
 ·exact ⟨ob.slots,u.keep b ob q n hb hx⟩
theorem Un.kept(k:∀ b u,h.get? b=some u->h'.get? b=some u):Un fs ex H H h h' :=
 ⟨fun b ob q _ _ _=>k b ob q,fun b ob q _ _ _=>⟨ob.slots,k b ob q⟩,fun _ _ _ n _=>n,fun b ob q _=>⟨ob,k b ob q⟩,fun _ _ q=>q,fun _ _ _ q=>q,fun _ _ _ q=>q⟩
theorem Un.refl:Un fs ex H H h h:=Un.kept fun _ _ q=>q
theorem Un.laid(k:∀ b u,h.get? b=some u->h'.get? b=some u)(hp:h.objs.size<=a)(hn:H a=none):Un fs ex H (upd H a o) h h' where
 keep:=fun b u q _ _ _=>k b u q
 slot:=fun b u q _ _ _=>⟨u.slots,k b u q⟩
 free:=fun b u q n _=>by rw [z_s (Nat.ne_of_lt (Nat.lt_of_lt_of_le (Heap.lt_size q) hp))];exact n
 there:=fun b u q _=>⟨u,k b u q⟩
 tups:=fun b xs q=>by rw [z_s (z_n q hn)];exact q
 frzs:=fun b u xs q=>by rw [z_s (z_n q hn)];exact q
 tbls:=fun b p q z=>by rw [z_s (z_n z hn)];exact z
theorem Un.write(mu:Mut (H x))(he:e=x\/H e=some (.own x))(k:∀ b u,b≠e->h.get? b=some u->h'.get? b=some u)(heo:∃ u,h'.get? e=some u):Un fs ex H (upd H x o) h h':=by
 have hx:∀ b,H b=none->b≠x:=fun b n z=>by subst z;rw [n] at mu;exact mu
 have hb:∀ b,H b=none->b≠e:=fun b n z=>by
  subst z
  rcases he with r | r
  ·exact hx b n r
  ·rw [n] at r;cases r
 have hm:∀ b u,H b=some u->¬Mut (some u)->b≠x:=fun b u q nm z=>by subst z;rw [q] at mu;exact nm mu
 refine ⟨fun b u q n _ _=>k b u (hb b n) q,fun b u q n _ _=>⟨u.slots,k b u (hb b n) q⟩,fun b u q n _=>by rw [z_s (hx b n)];exact n,fun b u q _=>?_,
  fun b xs q=>by rw [z_s (hm b _ q fun z=>z)];exact q,fun b u xs q=>by rw [z_s (hm b _ q fun z=>z)];exact q,fun b p q z=>by rw [z_s (hm b _ z fun y=>y)];exact z⟩
 by_cases hbe:b=e
 ·subst hbe;exact heo
 ·exact ⟨u,k b u hbe q⟩
end
def trk(h:Heap)(H:Hp):List Addr:=(List.range h.objs.size).filter fun a=>(H a).isSome
def hidT(h:Heap)(H:Hp):Heap:=PySem.W.hideAll h (trk h H)
theorem hidT_size(h:Heap)(H:Hp):(hidT h H).objs.size=h.objs.size:=PySem.W.hideAll_size _ _
theorem hidT_get{h:Heap}{H:Hp}{b:Addr}{o:Obj}(e:h.get? b=some o)(n:H b=none):(hidT h H).get? b=some o :=
 PySem.W.hideAll_get _ e fun hm=>by
  have q:(H b).isSome=true:=(List.mem_filter.mp hm).2
  rw [n] at q;simp at q
theorem of_hidT{h:Heap}{H:Hp}{b:Addr}{o:Obj}(e:(hidT h H).get? b=some o):h.get? b=some o/\H b=none:=by
 have e':h.get? b=some o:=PySem.W.of_hideAll (trk h H) e
 refine ⟨e',?_⟩
 cases q:H b with
 | none=>rfl
 | some x =>
  have hm:b∈trk h H:=List.mem_filter.mpr ⟨List.mem_range.mpr (Heap.lt_size e'),by simp [q]⟩
  have z:(hidT h H).get? b=none:=PySem.W.hideAll_none (trk h H) hm
  rw [z] at e;cases e
open PySem PySem.Spec PyProof.Rows
structure Mod(K:PySem.W.Frag)(mg:Str->Option Value)(base:Heap):Prop where
 kin:K.In base
 glob:base.Ns mainGlobals mg
 blt:∃ mb,base.Ns builtinsNs mb/\∀ x:Str,x ≠ "__name__" -> mb x=bootBuiltins x
 nolimit:base.NoLimit
structure Cx where
 prog:Program
 w:World
 K:PySem.W.Frag
 mg:Str->Option Value
 base:Heap
 A:Around
 N:List Str
 s₀:Shared
 H₀:Hp
 env:Env
 outer:List Env
 stack:List Env
 ex:List Addr
 fn:Str->Bool
 calm:Bool
 pn:List (Addr×Obj)
 xe:Value->Shared->Prop
def frs(l:List Env):List Addr:=l.filterMap (·.frame)
abbrev Cx.fs(X:Cx):List Addr:=frs X.outer
def Vis(sc:Scope)(x:Str):Prop:=sc.names.lookup x=some .local\/sc.names.lookup x=some .cell\/sc.names.lookup x=some .free
def Loc(sc:Scope)(x:Str):Prop:=sc.names.lookup x=some .local\/sc.names.lookup x=some .cell
def Look(env:Env)(h:Heap)(m:Str->Option Value)(x:Str)(u:Value):Prop :=
 (env.kindOf x=some .local/\m x=some u)\/((env.kindOf x=some .cell\/env.kindOf x=some .free)/\∃ c,env.cells.lookup x=some c/\h.IsCell c (some u))
structure Cx.Ok(X:Cx):Prop where
 mod:Mod X.K X.mg X.base
 kind:X.env.scope.kind = .function
 glob:X.env.globals=mainGlobals
 blt:X.env.builtins=builtinsNs
 above:X.s₀.heap.objs.size<=X.env.locals
 inj:∀ x y c,X.env.cells.lookup x=some c->X.env.cells.lookup y=some c->x=y
 has:∀ x,(X.env.kindOf x=some .cell\/X.env.kindOf x=some .free)->∃ c,X.env.cells.lookup x=some c
 cab:∀ x c,X.fn x=true->X.env.cells.lookup x=some c->X.s₀.heap.objs.size<=c
 hd:X.calm=true->X.A.handled=none
 frames:X.A.frames=some X.stack
 gd:X.A.guards=some []
 stk:X.stack=X.outer\/(X.stack=X.env::X.outer/\X.env.frame=some X.env.locals)
 exf:∀ b∈X.ex,b≠X.env.locals/\∀ x c,X.env.cells.lookup x=some c->c≠b
 bs:∀ b o,X.base.get? b=some o->X.s₀.heap.get? b=some o/\X.H₀ b=none
 bsz:X.base.objs.size<=X.s₀.heap.objs.size
 noex:∀ b o,X.base.get? b=some o->b∉X.ex
 exfs:∀ b∈X.ex,b∉X.fs
 funs:X.s₀.heap.FunFrames X.base X.outer
 frf:∀ b∈X.fs,X.H₀ b=none
structure Inv(X:Cx)(pins:List (Addr×Obj))(σ:List (Option V))(H:Hp)(s:Shared):Prop where
 ok:X.Ok
 os:s.os=X.s₀.os
 bare:AllBare s.gens
 base:Un X.fs X.ex X.H₀ H X.s₀.heap s.heap
 loc:∃ m,s.heap.Ns X.env.locals m/\∀ (i:Nat) (x:Str) (v:V),X.N[i]? = some x->σ[i]? = some (some v)->Vis X.env.scope x->∃ u,RelV v u/\Look X.env s.heap m x u
 cell:∀ x c,X.env.cells.lookup x=some c->∃ v,s.heap.IsCell c v
 free:H X.env.locals=none
 freeC:∀ x c,X.env.cells.lookup x=some c->H c=none
 pin:∀ p∈X.pn++pins,s.heap.get? p.1=some p.2/\H p.1=none/\p.1≠X.env.locals/\p.1∉X.fs/\∀ v,p.2.data ≠ .cell v
 hok:HOk X.prog X.w H s.heap
 len:σ.length=X.N.length
section
variable {X:Cx} {pins:List (Addr×Obj)} {σ:List (Option V)} {H H':Hp} {s:Shared} {h':Heap}
theorem Cx.Ok.nofr(ok:X.Ok){b:Addr}{o:Obj}(e:X.base.get? b=some o):b∉X.fs:=fun hb=>by
 have:=(ok.funs.mem hb).1
 rw [e] at this;cases this
theorem Inv.bs(I:Inv X pins σ H s):∀ b o,X.base.get? b=some o->s.heap.get? b=some o/\H b=none:=fun b o e =>
 ⟨I.base.keep b o (I.ok.bs b o e).1 (I.ok.bs b o e).2 (I.ok.nofr e) (I.ok.noex b o e),I.base.free b o (I.ok.bs b o e).1 (I.ok.bs b o e).2 (I.ok.noex b o e)⟩
theorem Inv.bk(I:Inv X pins σ H s):∀ b o,X.base.get? b=some o->s.heap.get? b=some o:=fun b o e=>(I.bs b o e).1
theorem Inv.mod(I:Inv X pins σ H s):Mod X.K X.mg X.base:=I.ok.mod
theorem Inv.kIn(I:Inv X pins σ H s):X.K.In s.heap:=I.ok.mod.kin.keeps I.bk
theorem Inv.lt(I:Inv X pins σ H s):X.env.locals<s.heap.objs.size:=let ⟨_,hn,_⟩:=I.loc;hn.lt
theorem Inv.sz(I:Inv X pins σ H s):X.s₀.heap.objs.size<=s.heap.objs.size:=Nat.le_trans I.ok.above (Nat.le_of_lt I.lt)
theorem Inv.nofs(I:Inv X pins σ H s){a:Addr}(h:s.heap.objs.size<=a):a∉X.fs:=fun hb=>by
 obtain ⟨_,o,ho,_⟩:=I.ok.funs.mem hb
 exact absurd (Nat.lt_of_lt_of_le (Heap.lt_size ho) (Nat.le_trans I.sz h)) (Nat.lt_irrefl _)
theorem Inv.cne(I:Inv X pins σ H s):∀ x c,X.env.cells.lookup x=some c->c≠X.env.locals:=fun x c e z=>by
 obtain ⟨v,o,ho,hd⟩:=I.cell x c e
 obtain ⟨m,⟨o',es,ep,ho',hd',_⟩,_⟩:=I.loc
 rw [z,ho'] at ho;cases ho;rw [hd'] at hd;cases hd
theorem Inv.funs(I:Inv X pins σ H s):s.heap.FunFrames X.base X.outer:=by
 have all:∀ (l:List Env),(∀ b∈frs l,b∈X.fs)->X.s₀.heap.FunFrames X.base l->s.heap.FunFrames X.base l:=by
  intro l
  induction l with
  | nil=>intro _ _;trivial
  | cons env r ih =>
   intro hs hl
   obtain ⟨hk,⟨L,o,hf,hn,ho,hd⟩,hr⟩:=hl
   have hL:L∈X.fs:=hs L (by unfold frs;rw [List.filterMap_cons,hf];exact List.mem_cons_self)
   obtain ⟨sl,e⟩:=I.base.slot L o ho (I.ok.frf L hL) hL fun z=>I.ok.exfs L z hL
   exact ⟨hk,⟨L,_,hf,hn,e,hd⟩,ih (fun b hb=>hs b (by unfold frs;rw [List.filterMap_cons,hf];exact List.mem_cons_of_mem _ hb)) hr⟩
 exact all X.outer (fun _ hb=>hb) I.ok.funs
theorem Inv.stack(I:Inv X pins σ H s):s.heap.FunFrames X.base X.stack:=by
 rcases I.ok.stk with e | ⟨e,hf⟩
 ·rw [e];exact I.funs
 ·rw [e]
  obtain ⟨m,hn,_⟩:=I.loc
  refine .cons (by rw [I.ok.kind];decide) hf hn ?_ I.funs
  exact Heap.get?_none_of_le (Nat.le_trans I.ok.bsz I.ok.above)
theorem Inv.stkSub(I:Inv X pins σ H s):∀ b∈frs X.stack,b∈X.env.locals::X.fs:=fun b hb=>by
 rcases I.ok.stk with e | ⟨e,hf⟩
 ·rw [e] at hb;exact List.mem_cons_of_mem _ hb
 ·rw [e] at hb
  unfold frs at hb
  rw [List.filterMap_cons,hf] at hb
  exact hb
theorem Inv.stkFree(I:Inv X pins σ H s):∀ b∈frs X.stack,H b=none:=fun b hb=>by
 rcases List.mem_cons.mp (I.stkSub b hb) with e | hb
 ·rw [e];exact I.free
 ·obtain ⟨_,o,ho,_⟩:=I.ok.funs.mem hb
  exact I.base.free b o ho (I.ok.frf b hb) fun z=>I.ok.exfs b z hb
theorem Inv.step{g':Array GenState}{t':Nat}{d':Drawn}{ch:List Addr}(I:Inv X pins σ H s)
  (hch:∀ b∈ch,(b∈X.ex\/X.s₀.heap.objs.size<=b)/\b≠X.env.locals/\(∀ x c,X.env.cells.lookup x=some c->c≠b)/\∀ p∈X.pn++pins,p.1≠b)
  (keep:∀ b o,b≠X.env.locals->b∉X.fs->b∉ch->s.heap.get? b=some o->H b=none->h'.get? b=some o)
  (slot:∀ b o,b≠X.env.locals->b∈X.fs->b∉ch->s.heap.get? b=some o->H b=none->∃ sl,h'.get? b=some { o with slots:=sl }) (free:∀ b o,b∉ch->s.heap.get? b=some o->H b=none->H' b=none)
  (there:∀ b o,b∉ch->s.heap.get? b=some o->∃ o',h'.get? b=some o')
  (tups:∀ b xs,H b=some (.tup xs)->H' b=some (.tup xs)) (frzs:∀ b o u,H b=some (.frz o u)->H' b=some (.frz o u)) (tbls:∀ b p q,H b=some (.tbl p q)->H' b=some (.tbl p q))
  (ns:∀ m,s.heap.Ns X.env.locals m->h'.Ns X.env.locals m) (hok:HOk X.prog X.w H' h') (hg:AllBare g') :
  Inv X pins σ H' { s with heap:=h',gens:=g',drawn:=d',toks:=t' }:=by
 have neL:∀ b o,X.s₀.heap.get? b=some o->b≠X.env.locals:=fun b o e=>Nat.ne_of_lt (Nat.lt_of_lt_of_le (Heap.lt_size e) I.ok.above)
 have neC:∀ b o,X.s₀.heap.get? b=some o->b∉X.ex->b∉ch:=fun b o e hx hb=>by
  rcases (hch b hb).1 with z | z
  ·exact hx z
  ·exact absurd (Nat.lt_of_lt_of_le (Heap.lt_size e) z) (Nat.lt_irrefl _)
 have cellK:∀ x c,X.env.cells.lookup x=some c->∀ v,s.heap.IsCell c v->h'.IsCell c v:=fun x c e v ⟨o,ho,hd⟩=>by
  have nch:c∉ch:=fun z=>(hch c z).2.2.1 x c e rfl
  by_cases hc:c∈X.fs
  ·obtain ⟨sl,q⟩:=slot c o (I.cne x c e) hc nch ho (I.freeC x c e)
   exact ⟨_,q,hd⟩
  ·exact ⟨o,keep c o (I.cne x c e) hc nch ho (I.freeC x c e),hd⟩
 refine ⟨I.ok,I.os,hg,⟨fun b o e n hb hx=>?_,fun b o e n hb hx=>?_,fun b o e n hx=>?_,fun b o e hx=>?_,fun b xs e=>tups b xs (I.base.tups b xs e),fun b o xs e=>frzs b o xs (I.base.frzs b o xs e),fun b p q e=>tbls b p q (I.base.tbls b p q e)⟩,?_,fun x c e=>?_,?_,fun x c e=>?_,fun p hp=>?_,hok,I.len⟩
 ·exact keep b o (neL b o e) hb (neC b o e hx) (I.base.keep b o e n hb hx) (I.base.free b o e n hx)
 ·obtain ⟨sl,e1⟩:=I.base.slot b o e n hb hx
  obtain ⟨sl',e2⟩:=slot b _ (neL b o e) hb (neC b o e hx) e1 (I.base.free b o e n hx)
  exact ⟨sl',e2⟩
 ·obtain ⟨o',e1⟩:=I.base.there b o e hx
  exact free b o' (neC b o e hx) e1 (I.base.free b o e n hx)
 ·obtain ⟨o',e1⟩:=I.base.there b o e hx
  exact there b o' (neC b o e hx) e1
 ·obtain ⟨m,hn,hl⟩:=I.loc
  refine ⟨m,ns m hn,fun i x v e1 e2 e3=>?_⟩
  obtain ⟨u,r,l⟩:=hl i x v e1 e2 e3
  refine ⟨u,r,?_⟩
  rcases l with l | ⟨k,c,e,z⟩
  ·exact .inl l
  ·exact .inr ⟨k,c,e,cellK x c e _ z⟩
 ·obtain ⟨v,z⟩:=I.cell x c e
  exact ⟨v,cellK x c e v z⟩
 ·obtain ⟨m,⟨o,_,_,ho,_⟩,_⟩:=I.loc
  exact free _ o (fun z=>(hch _ z).2.1 rfl) ho I.free
 ·obtain ⟨v,o,ho,hd⟩:=I.cell x c e
  exact free c o (fun z=>(hch c z).2.2.1 x c e rfl) ho (I.freeC x c e)
 ·obtain ⟨e,n,ne,nf,d⟩:=I.pin p hp
  have nch:p.1∉ch:=fun z=>(hch p.1 z).2.2.2 p hp rfl
  exact ⟨keep p.1 p.2 ne nf nch e n,free p.1 p.2 nch e n,ne,nf,d⟩
theorem Inv.un{t':Nat}(I:Inv X pins σ H s)(u:Un X.fs [] H H' s.heap h')(hok:HOk X.prog X.w H' h'):Inv X pins σ H' { s with heap:=h',toks:=t' }:=by
 obtain ⟨m,⟨o,es,ep,ho,r⟩,_⟩:=id I.loc
 obtain ⟨sl,hL⟩:=u.any ho I.free (by simp)
 exact I.step (g':=s.gens) (d':=s.drawn) (ch:=[]) (fun _ z=>nomatch z) (fun b o _ hb _ e n=>u.keep b o e n hb (by simp)) (fun b o _ hb _ e n=>u.slot b o e n hb (by simp)) (fun b o _ e n=>u.free b o e n (by simp)) (fun b o _ e=>u.there b o e (by simp)) u.tups u.frzs u.tbls (fun m' hm=>by
  obtain ⟨o',es',ep',ho',r'⟩:=hm
  rw [ho] at ho';cases ho'
  exact ⟨_,es',ep',hL,r'⟩) hok I.bare
theorem Inv.call{g':Array GenState}{t':Nat}{d':Drawn}{ch:List Addr}(I:Inv X pins σ H s)(u:Un (frs X.stack) ch H H' s.heap h')(hok:HOk X.prog X.w H' h')(hg:AllBare g')
  (hch:∀ b∈ch,(b∈X.ex\/X.s₀.heap.objs.size<=b)/\b≠X.env.locals/\(∀ x c,X.env.cells.lookup x=some c->c≠b)/\∀ p∈X.pn++pins,p.1≠b) :
  Inv X pins σ H' { s with heap:=h',gens:=g',drawn:=d',toks:=t' }:=by
 obtain ⟨m,⟨o,es,ep,ho,r⟩,_⟩:=id I.loc
 obtain ⟨sl,hL⟩:=u.any ho I.free fun z=>(hch _ z).2.1 rfl
 exact I.step (ch:=ch) hch (fun b o hL hb hc e n=>u.keep b o e n (fun z=>(List.mem_cons.mp (I.stkSub b z)).elim hL hb) hc) (fun b o _ _ hc e n=>u.any e n hc) (fun b o hc e n=>u.free b o e n hc) (fun b o hc e=>u.there b o e hc) u.tups u.frzs u.tbls (fun m' hm=>by
  obtain ⟨o',es',ep',ho',r'⟩:=hm
  rw [ho] at ho';cases ho'
  exact ⟨_,es',ep',hL,r'⟩) hok hg
theorem Inv.turned{t':Nat}{it:Addr}(I:Inv X pins σ H s)(k:∀ b o,b≠it->s.heap.get? b=some o->h'.get? b=some o)(hn:H it=none)(hL:it≠X.env.locals)
  (h1:it∈X.ex\/X.s₀.heap.objs.size<=it) (h2:∀ x c,X.env.cells.lookup x=some c->c≠it) (h3:∀ p∈X.pn++pins,p.1≠it):Inv X pins σ H { s with heap:=h',toks:=t' }:=by
 have nit:∀ b u,H b=some u->b≠it:=fun b u e z=>by rw [z,hn] at e;cases e
 refine I.step (g':=s.gens) (d':=s.drawn) (ch:=[it]) (fun b hb=>?_) (fun b o _ _ hc e _=>k b o (fun z=>hc (by simp [z])) e) (fun b o _ _ hc e _=>⟨o.slots,k b o (fun z=>hc (by simp [z])) e⟩) (fun _ _ _ _ n=>n)
  (fun b o hc e=>⟨o,k b o (fun z=>hc (by simp [z])) e⟩) (fun _ _ e=>e) (fun _ _ _ e=>e) (fun _ _ _ e=>e) (fun m hm=>?_) (fun b u e=>?_) I.bare
 ·have e:b=it:=by simpa using hb
  subst e
  exact ⟨h1,hL,h2,h3⟩
 ·obtain ⟨o,es,ep,ho,r⟩:=hm
  exact ⟨o,es,ep,k _ o (Ne.symm hL) ho,r⟩
 ·refine (I.hok b u e).stay (fun c v hc q=>k c v ?_ q) (fun _ q=>q) (fun _ _ q=>q) fun _ _ _ q=>q
  rcases hc with z | z
  ·rw [z];exact nit b u e
  ·exact nit c _ z
theorem Inv.tok(I:Inv X pins σ H s)(t:Nat):Inv X pins σ H { s with toks:=t }:=I.un (h':=s.heap) (t':=t) Un.refl I.hok
theorem Inv.kept{t':Nat}(I:Inv X pins σ H s)(k:∀ b u,s.heap.get? b=some u->h'.get? b=some u):Inv X pins σ H { s with heap:=h',toks:=t' }:=I.un (Un.kept k) (I.hok.kept k)
theorem Inv.laid{a:Addr}{o:HO}{t':Nat}(I:Inv X pins σ H s)(k:∀ b u,s.heap.get? b=some u->h'.get? b=some u)(hp:s.heap.objs.size<=a)(new:ObjOk X.prog X.w (upd H a o) h' a o) :
  Inv X pins σ (upd H a o) { s with heap:=h',toks:=t' }:=I.un (Un.laid k hp (I.hok.fresh hp)) (I.hok.laid k hp new)
theorem Inv.write{x e:Addr}{o:HO}{t':Nat}(I:Inv X pins σ H s)(mu:Mut (H x))(he:e=x\/H e=some (.own x))(k:∀ b u,b≠e->s.heap.get? b=some u->h'.get? b=some u)(heo:∃ u,h'.get? e=some u)
  (new:ObjOk X.prog X.w (upd H x o) h' x o):Inv X pins σ (upd H x o) { s with heap:=h',toks:=t' }:=I.un (Un.write mu he k heo) (I.hok.write mu he k heo new)
theorem Inv.pins_of{pins':List (Addr×Obj)}(I:Inv X pins σ H s)(h:∀ p∈pins',s.heap.get? p.1=some p.2/\H p.1=none/\p.1≠X.env.locals/\p.1∉X.fs/\∀ v,p.2.data ≠ .cell v):Inv X pins' σ H s :=
 ⟨I.ok,I.os,I.bare,I.base,I.loc,I.cell,I.free,I.freeC,fun p hp=>(List.mem_append.mp hp).elim (fun z=>I.pin p (List.mem_append_left _ z)) (h p),I.hok,I.len⟩
theorem nodup_ix{N:List Str}(hN:N.Nodup){i j:Nat}{x:Str}(a:N[i]? = some x)(b:N[j]? = some x):i=j:=by
 obtain ⟨h1,e1⟩:=List.getElem?_eq_some_iff.mp a
 obtain ⟨h2,e2⟩:=List.getElem?_eq_some_iff.mp b
 exact (List.getElem_inj hN).mp (e1.trans e2.symm)
theorem store_ok2{M:Model}{A:Around}{E:Value->Shared->Prop}{i:Nat}{x:Str}{v:V}{u:Value}{Q:Unit->Shared->Prop}(I:Inv X pins σ H s)(hN:X.N.Nodup)(hi:X.N[i]? = some x)(hx:Loc X.env.scope x)(r:RelV v u)
  (h:∀ s',Inv X pins (σ.set i (some v)) H s'->(∃ a,Heap.SameBut a s.heap s'.heap/\(a=X.env.locals\/X.env.cells.lookup x=some a))->Q () s') (hf:X.fn x=true\/X.env.scope.names.lookup x=some .local:=by first | exact .inl rfl | exact .inr rfl | assumption):wpAny M A (storeName X.env x u) Q E s:=by
 obtain ⟨m,hn,hl⟩:=id I.loc
 have hcls:(X.env.scope.kind == .class || (X.env.scope.kind == .module&&X.env.locals != X.env.globals))=false:=by rw [I.ok.kind];rfl
 have hiσ:i<σ.length:=by rw [I.len];exact (List.getElem?_eq_some_iff.mp hi).1
 have cne:=I.cne
 have tracked:∀ {a:Addr} {h':Heap},(∃ o,s.heap.get? a=some o/\H a=none)->Heap.SameBut a s.heap h'->HOk X.prog X.w H h':=fun {a h'} ha hs b ob e=>by
  obtain ⟨_,_,hfree⟩:=ha
  refine (I.hok b ob e).stay (fun c w' hc q=>(hs.2 c ?_).trans q) (fun _ q=>q) (fun _ _ q=>q) fun _ _ _ q=>q
  rintro rfl
  rcases hc with rfl | hc
  ·rw [hfree] at e;cases e
  ·rw [hfree] at hc;cases hc
 rcases hx with hk | hk
 ·refine wpAny_storeName_local hk hn (fun h' hn' hs=>?_) hcls
  obtain ⟨oL,_,_,hoL,_⟩:=id hn
  refine h _ ⟨I.ok,I.os,I.bare,⟨fun b o e n hb hx=>?_,fun b o e n hb hx=>?_,I.base.free,fun b o e hx=>?_,I.base.tups,I.base.frzs,I.base.tbls⟩,⟨_,hn',fun j y v' e1 e2 e3=>?_⟩,fun y c e=>?_,I.free,I.freeC,fun p hp=>?_,tracked ⟨oL,hoL,I.free⟩ hs,by simpa using I.len⟩ ⟨_,hs,.inl rfl⟩
  ·exact (hs.2 b (Nat.ne_of_lt (Nat.lt_of_lt_of_le (Heap.lt_size e) I.ok.above))).trans (I.base.keep b o e n hb hx)
  ·obtain ⟨sl,e1⟩:=I.base.slot b o e n hb hx
   exact ⟨sl,(hs.2 b (Nat.ne_of_lt (Nat.lt_of_lt_of_le (Heap.lt_size e) I.ok.above))).trans e1⟩
  ·obtain ⟨o',e1⟩:=I.base.there b o e hx
   exact ⟨o',(hs.2 b (Nat.ne_of_lt (Nat.lt_of_lt_of_le (Heap.lt_size e) I.ok.above))).trans e1⟩
  ·by_cases hj:j=i
   ·subst hj
    rw [hi] at e1;cases e1
    rw [List.getElem?_set_self hiσ] at e2
    cases e2
    exact ⟨u,r,.inl ⟨hk,by simp⟩⟩
   ·rw [List.getElem?_set_ne (Ne.symm hj)] at e2
    obtain ⟨u',r',q⟩:=hl j y v' e1 e2 e3
    refine ⟨u',r',?_⟩
    rcases q with ⟨k,e⟩ | ⟨k,c,e,z⟩
    ·refine .inl ⟨k,?_⟩
     have:y≠x:=fun e=>hj (nodup_ix hN e1 (e▸hi))
     simp [this,e]
    ·exact .inr ⟨k,c,e,z.sameBut hs (cne y c e)⟩
  ·obtain ⟨w',z⟩:=I.cell y c e
   exact ⟨w',z.sameBut hs (cne y c e)⟩
  ·obtain ⟨e,n,ne,nf,d⟩:=I.pin p hp
   exact ⟨(hs.2 p.1 ne).trans e,n,ne,nf,d⟩
 ·have hfn:X.fn x=true:=by
   rcases hf with z | z
   ·exact z
   ·rw [z] at hk;cases hk
  obtain ⟨c,hc⟩:=I.ok.has x (.inl hk)
  obtain ⟨w',z⟩:=I.cell x c hc
  refine wpAny_storeName_cell I.ok.kind hk hc z (fun h' hc' hs=>?_)
  obtain ⟨oc,hoc,hocd⟩:=id z
  refine h { s with heap:=h' } ⟨I.ok,I.os,I.bare,⟨fun b o e n hb hx=>?_,fun b o e n hb hx=>?_,I.base.free,fun b o e hx=>?_,I.base.tups,I.base.frzs,I.base.tbls⟩,⟨m,hn.sameBut hs (Ne.symm (cne x c hc)),fun j y v' e1 e2 e3=>?_⟩,fun y c' e=>?_,I.free,I.freeC,fun p hp=>?_,tracked ⟨oc,hoc,I.freeC x c hc⟩ hs,by simpa using I.len⟩ ⟨c,hs,.inr hc⟩
  ·exact (hs.2 b (Nat.ne_of_lt (Nat.lt_of_lt_of_le (Heap.lt_size e) (I.ok.cab x c hfn hc)))).trans (I.base.keep b o e n hb hx)
  ·obtain ⟨sl,e1⟩:=I.base.slot b o e n hb hx
   exact ⟨sl,(hs.2 b (Nat.ne_of_lt (Nat.lt_of_lt_of_le (Heap.lt_size e) (I.ok.cab x c hfn hc)))).trans e1⟩
  ·obtain ⟨o',e1⟩:=I.base.there b o e hx
   exact ⟨o',(hs.2 b (Nat.ne_of_lt (Nat.lt_of_lt_of_le (Heap.lt_size e) (I.ok.cab x c hfn hc)))).trans e1⟩
  ·by_cases hj:j=i
   ·subst hj
    rw [hi] at e1;cases e1
    rw [List.getElem?_set_self hiσ] at e2
    cases e2
    exact ⟨u,r,.inr ⟨.inl hk,c,hc,hc'⟩⟩
   ·rw [List.getElem?_set_ne (Ne.symm hj)] at e2
    obtain ⟨u',r',q⟩:=hl j y v' e1 e2 e3
    refine ⟨u',r',?_⟩
    rcases q with q | ⟨k,c',e,z'⟩
    ·exact .inl q
    ·refine .inr ⟨k,c',e,z'.sameBut hs ?_⟩
     rintro rfl
     exact hj (nodup_ix hN e1 (I.ok.inj _ _ _ e hc▸hi))
  ·by_cases hcc:c'=c
   ·subst hcc;exact ⟨_,hc'⟩
   ·obtain ⟨w2,z2⟩:=I.cell y c' e
    exact ⟨w2,z2.sameBut hs hcc⟩
  ·obtain ⟨e,n,ne,nf,d⟩:=I.pin p hp
   refine ⟨(hs.2 p.1 ?_).trans e,n,ne,nf,d⟩
   intro q
   rw [q,hoc] at e
   have q':oc=p.2:=Option.some.inj e
   exact d w' (by rw [<-q'];exact hocd)
theorem store_ok{M:Model}{A:Around}{E:Value->Shared->Prop}{i:Nat}{x:Str}{v:V}{u:Value}{Q:Unit->Shared->Prop}(I:Inv X pins σ H s)(hN:X.N.Nodup)(hi:X.N[i]? = some x)(hx:Loc X.env.scope x)(r:RelV v u)
  (h:∀ s',Inv X pins (σ.set i (some v)) H s'->Q () s') (hf:X.fn x=true\/X.env.scope.names.lookup x=some .local:=by first | exact .inl rfl | exact .inr rfl | assumption):wpAny M A (storeName X.env x u) Q E s :=
 store_ok2 I hN hi hx r (fun s' I' _=>h s' I') hf
theorem Inv.call'{s':Shared}{ch:List Addr}(I:Inv X pins σ H s)(ho:s'.os=s.os)(u:Un (frs X.stack) ch H H' s.heap s'.heap)(hok:HOk X.prog X.w H' s'.heap)(hg:AllBare s'.gens)
  (hch:∀ b∈ch,(b∈X.ex\/X.s₀.heap.objs.size<=b)/\b≠X.env.locals/\(∀ x c,X.env.cells.lookup x=some c->c≠b)/\∀ p∈X.pn++pins,p.1≠b):Inv X pins σ H' s':=by
 obtain ⟨h',g',d',t',o'⟩:=s'
 have e:o'=s.os:=ho
 subst e
 exact I.call (g':=g') (t':=t') (d':=d') u hok hg hch
end
abbrev XK:=Value->Option Addr->Hp->Prop
abbrev St:=List (Option V)
abbrev VK:=V->Hp->Prop
abbrev TE:=St->Hp->VK->Prop
abbrev TT:=St->Hp->(Bool->Hp->Prop)->Prop
abbrev TA:=St->Hp->(List V->Hp->Prop)->Prop
structure Ends where
 nx:St->Hp->Prop
 rt:VK
 bk:St->Hp->Prop:=fun _ _=>False
 ct:St->Hp->Prop:=fun _ _=>False
abbrev TS:=Ends->St->Hp->Prop
def EP(X:Cx)(pins:List (Addr×Obj))(σ:St)(Q:VK)(u:Value)(s':Shared):Prop:=∃ v H',Inv X pins σ H' s'/\RelV v u/\Q v H'
def TP(X:Cx)(pins:List (Addr×Obj))(σ:St)(Q:Bool->Hp->Prop)(b:Bool)(s':Shared):Prop:=∃ H',Inv X pins σ H' s'/\Q b H'
def AP(X:Cx)(pins:List (Addr×Obj))(σ:St)(Q:List V->Hp->Prop)(us:List Value)(s':Shared):Prop:=∃ vs H',Inv X pins σ H' s'/\Vals vs us/\Q vs H'
def SP(X:Cx)(pins:List (Addr×Obj))(D:Ends)(f:Flow)(s':Shared):Prop :=
 match f with
 | .next=>∃ σ' H',Inv X pins σ' H' s'/\D.nx σ' H'
 | .brk=>∃ σ' H',Inv X pins σ' H' s'/\D.bk σ' H'
 | .cont=>∃ σ' H',Inv X pins σ' H' s'/\D.ct σ' H'
 | .ret u=>∃ v σ' H',Inv X pins σ' H' s'/\RelV v u/\D.rt v H'
def PE(X:Cx)(e:Expr)(t:TE):Prop :=
 ∀ (pins:List (Addr×Obj)) (s:Shared) (σ:St) (H:Hp) (Q:VK),Inv X pins σ H s->t σ H Q->wpAny (model X.prog X.w) X.A (eval e X.env) (EP X pins σ Q) X.xe s
def PT(X:Cx)(e:Expr)(t:TT):Prop :=
 ∀ (pins:List (Addr×Obj)) (s:Shared) (σ:St) (H:Hp) (Q:Bool->Hp->Prop),Inv X pins σ H s->t σ H Q->wpAny (model X.prog X.w) X.A (isTrue e X.env (eval e X.env)) (TP X pins σ Q) X.xe s
def PW(X:Cx)(e:Expr)(t:TT):Prop :=
 ∀ (whole:Sem Value) (pins:List (Addr×Obj)) (s:Shared) (σ:St) (H:Hp) (Q:Bool->Hp->Prop),Inv X pins σ H s->t σ H Q->wpAny (model X.prog X.w) X.A (isTrue e X.env whole) (TP X pins σ Q) X.xe s
theorem PW.pt{X:Cx}{e:Expr}{t:TT}(h:PW X e t):PT X e t:=h _
def PA(X:Cx)(es:List Expr)(t:TA):Prop :=
 ∀ (pos:Pos) (pins:List (Addr×Obj)) (s:Shared) (σ:St) (H:Hp) (Q:List V->Hp->Prop),Inv X pins σ H s->t σ H Q->wpAny (model X.prog X.w) X.A (spliced (backTo pos (starEach es X.env))) (AP X pins σ Q) X.xe s
def PS(X:Cx)(st:Stmt)(t:TS):Prop :=
 ∀ (pins:List (Addr×Obj)) (s:Shared) (σ:St) (H:Hp) (D:Ends),Inv X pins σ H s->t D σ H->wpAny (model X.prog X.w) X.A (exec st X.env) (SP X pins D) X.xe s
def PSs(X:Cx)(st:List Stmt)(t:TS):Prop :=
 ∀ (pins:List (Addr×Obj)) (s:Shared) (σ:St) (H:Hp) (D:Ends),Inv X pins σ H s->t D σ H->wpAny (model X.prog X.w) X.A (execs st X.env) (SP X pins D) X.xe s
theorem thn{α:Type}{t:Sem α}{Q Q':α->Shared->Prop}{M:Model}{A:Around}{E:Value->Shared->Prop}{s:Shared}(h:wpAny M A t Q E s)(hQ:∀ a s,Q a s->Q' a s):wpAny M A t Q' E s:=wpAny_mono h hQ fun _ _ x=>x
open PySem PySem.Spec PyProof.Rows
section
variable {X:Cx}
def tVar(i:Nat):TE:=fun σ H Q=>∃ v,σ[i]? = some (some v)/\Q v H
def tC(v:V):TE:=fun _ H Q=>Q v H
theorem pe_var{i:Nat}{x:Str}{pos:Pos}(hN:X.N[i]? = some x)(hv:Vis X.env.scope x)(hd:(x == ("__debug__" : Str))=false:=by decide)(hcd:(x == ("__classdict__" : Str))=false:=by decide):PE X (.Name x pos) (tVar i):=by
 intro pins s σ H Q I h
 obtain ⟨v,e,h⟩:=h
 obtain ⟨m,hn,hl⟩:=I.loc
 obtain ⟨u,r,l⟩:=hl i x v hN e hv
 have fin:EP X pins σ Q u s:=⟨v,H,I,r,h⟩
 rcases l with ⟨hk,hm⟩ | ⟨hk,c,hc,hcell⟩
 ·exact wpAny_Name (wpAny_loadName_local I.ok.kind hk hn hm fin) hd
 ·rcases hk with hk | hk
  ·exact wpAny_Name (wpAny_loadName_cell I.ok.kind hk hc hcell fin) hd
  ·exact wpAny_Name (wpAny_loadName_free I.ok.kind hk hc hcell fin hcd) hd
theorem z_f{i j pos}:PE X (.Constant (.int i) j pos) (tC (.int i)):=fun _ _ _ H _ I h=>wpAny_Constant_int ⟨.int i,H,I.tok _,⟨_,rfl⟩,h⟩
theorem pe_bl{b j pos}:PE X (.Constant (.bool b) j pos) (tC (.bl b)):=fun _ _ _ H _ I h=>Constant_bool ⟨.bl b,H,I,rfl,h⟩
theorem pe_non{j pos}:PE X (.Constant .none j pos) (tC .non):=fun _ _ _ H _ I h=>Constant_none ⟨.non,H,I,rfl,h⟩
theorem z_z{x j pos}:PE X (.Constant (.str x) j pos) (tC (.str x)):=fun _ _ _ H _ I h=>Calls.Constant_str ⟨.str x,H,I.tok _,⟨_,rfl⟩,h⟩
def Gl(X:Cx)(x:Str):Prop:=X.env.kindOf x=some .globalImplicit
theorem ld_glob{E:Value->Shared->Prop}{pins:List (Addr×Obj)}{s:Shared}{σ:St}{H:Hp}{x:Str}{u:Value}{pos:Pos}{Q:Value->Shared->Prop}(I:Inv X pins σ H s)(hg:Gl X x)(hm:X.mg x=some u)(h:Q u s)
  (hd:(x == ("__debug__" : Str))=false:=by decide):wpAny (model X.prog X.w) X.A (eval (.Name x pos) X.env) Q E s :=
 Calls.Name_function_global I.ok.kind hg (Calls.loadGlobal_global (by rw [I.ok.glob];exact I.mod.glob.keeps I.bk) hm h) hd
theorem ld_blt{E:Value->Shared->Prop}{pins:List (Addr×Obj)}{s:Shared}{σ:St}{H:Hp}{x:Str}{u:Value}{pos:Pos}{Q:Value->Shared->Prop}(I:Inv X pins σ H s)(hg:Gl X x)(hm:X.mg x=none)(hv:bootBuiltins x=some u)(h:Q u s)
  (hn:x ≠ "__name__" := by decide) (hd:(x == ("__debug__" : Str))=false:=by decide):wpAny (model X.prog X.w) X.A (eval (.Name x pos) X.env) Q E s:=by
 obtain ⟨mb,h1,h2⟩:=I.mod.blt
 exact Calls.Name_function_global I.ok.kind hg (Calls.loadGlobal_builtin (by rw [I.ok.glob];exact I.mod.glob.keeps I.bk) hm (by rw [I.ok.blt];exact h1.keeps I.bk) ((h2 x hn).trans hv) h) hd
theorem pe_glob{x:Str}{v:V}{u:Value}{pos:Pos}(hg:Gl X x)(hm:X.mg x=some u)(r:RelV v u)(hd:(x == ("__debug__" : Str))=false:=by decide):PE X (.Name x pos) (tC v) :=
 fun _ _ _ H _ I h=>ld_glob I hg hm ⟨v,H,I,r,h⟩ hd
theorem pe_bltn{x:Str}{v:V}{u:Value}{pos:Pos}(hg:Gl X x)(hm:X.mg x=none)(hv:bootBuiltins x=some u)(r:RelV v u)(hn:x ≠ "__name__" := by decide)(hd:(x == ("__debug__" : Str))=false:=by decide):PE X (.Name x pos) (tC v) :=
 fun _ _ _ H _ I h=>ld_blt I hg hm hv ⟨v,H,I,r,h⟩ hn hd
variable {a b:Expr} {ta tb:TE} {pos:Pos}
def PC(X:Cx)(op:CmpOp)(a b:Expr)(t:TE):Prop :=
 ∀ (pins:List (Addr×Obj)) (s:Shared) (σ:St) (H:Hp) (Q:VK),Inv X pins σ H s->t σ H Q ->
  wpAny (model X.prog X.w) X.A (eval a X.env) (fun v s₁=>wpAny (model X.prog X.w) X.A (eval b X.env) (fun u s₂=>wpAny (model X.prog X.w) X.A (compareOp op v u) (EP X pins σ Q) X.xe s₂) X.xe s₁) X.xe s
theorem nobehind(b:Expr){op:CmpOp}(h:op ≠ .In)(h2:op ≠ .NotIn):behindInMarks op b=false:=by
 have e1:(op == CmpOp.In)=false:=by cases op<;>first | rfl | exact absurd rfl h
 have e2:(op == CmpOp.NotIn)=false:=by cases op<;>first | rfl | exact absurd rfl h2
 cases b<;>simp [behindInMarks,e1,e2]
def tB(t:TE):TT:=fun σ H Q=>t σ H fun x H1=>∃ c,x = .bl c/\Q c H1
theorem pt_cmp{op:CmpOp}{t:TE}(h:PC X op a b t)(h1:behindInMarks op b=false:=by first | exact nobehind _ (by decide) (by decide) | rfl):PT X (.Compare a [op] [b] pos) (tB t):=by
 intro pins s σ H Q I hw
 refine wpAny_isTrue_Compare1 (thn (h pins s σ H _ I hw) fun v s1 h1=>thn h1 fun u s2 h2=>thn h2 fun c s3 ⟨x,H1,I1,r1,q1⟩=>?_) h1
 obtain ⟨d,rfl,q⟩:=q1
 cases r1
 exact wpAny_truthy_bool ⟨H1,I1,q⟩
variable {tA tB':TT} {rest:List Expr}
def tAnd(t u:TT):TT:=fun σ H Q=>t σ H fun c H1=>if c=true then u σ H1 Q else Q false H1
def tOr(t u:TT):TT:=fun σ H Q=>t σ H fun c H1=>if c=true then Q true H1 else u σ H1 Q
def tNot(t:TT):TT:=fun σ H Q=>t σ H fun c H1=>Q (!c) H1
theorem pw_and1(ha:PT X a tA):PW X (.BoolOp .And [a] pos) tA:=by
 intro wh pins s σ H Q I h
 refine isTrue_and (thn (ha pins s σ H Q I h) fun c s1 e=>?_)
 cases c with
 | true=>exact isTrue_and_nil e
 | false=>exact e
theorem pw_or1(ha:PT X a tA):PW X (.BoolOp .Or [a] pos) tA:=by
 intro wh pins s σ H Q I h
 refine isTrue_or (thn (ha pins s σ H Q I h) fun c s1 e=>?_)
 cases c with
 | false=>exact isTrue_or_nil e
 | true=>exact e
theorem pw_and(ha:PT X a tA)(hb:PW X (.BoolOp .And (b::rest) pos) tB'):PW X (.BoolOp .And (a::b::rest) pos) (tAnd tA tB'):=by
 intro wh pins s σ H Q I h
 refine isTrue_and (thn (ha pins s σ H _ I h) fun c s1 ⟨H1,I1,q1⟩=>?_)
 cases c with
 | true=>exact hb wh pins s1 σ H1 Q I1 q1
 | false=>exact ⟨H1,I1,q1⟩
theorem pw_or(ha:PT X a tA)(hb:PW X (.BoolOp .Or (b::rest) pos) tB'):PW X (.BoolOp .Or (a::b::rest) pos) (tOr tA tB'):=by
 intro wh pins s σ H Q I h
 refine isTrue_or (thn (ha pins s σ H _ I h) fun c s1 ⟨H1,I1,q1⟩=>?_)
 cases c with
 | true=>exact ⟨H1,I1,q1⟩
 | false=>exact hb wh pins s1 σ H1 Q I1 q1
theorem pt_not(ha:PT X a tA):PT X (.UnaryOp .Not a pos) (tNot tA):=by
 intro pins s σ H Q I h
 exact isTrue_not (ha pins s σ H (fun c H1=>Q (!c) H1) I h)
def tAndV(ta tb:TE):TE:=fun σ H Q=>ta σ H fun x H1=>∃ c,x = .bl c/\if c=true then tb σ H1 Q else Q (.bl false) H1
def tNotV(ta:TE):TE:=fun σ H Q=>ta σ H fun x H1=>∃ c,x = .bl c/\Q (.bl (!c)) H1
theorem pe_one{op}{t:TE}(h:PE X a t):PE X (.BoolOp op [a] pos) t:=fun pins s σ H Q I hw=>BoolOp_one (h pins s σ H Q I hw)
theorem pe_and(ha:PE X a ta)(hb:PE X (.BoolOp .And (b::rest) pos) tb):PE X (.BoolOp .And (a::b::rest) pos) (tAndV ta tb):=by
 intro pins s σ H Q I h
 refine BoolOp_and (thn (ha pins s σ H _ I h) fun v s1 ⟨x,H1,I1,r1,q1⟩=>?_)
 obtain ⟨c,rfl,q1⟩:=q1
 cases r1
 refine wpAny_truthy_bool ?_
 cases c with
 | true=>exact hb pins s1 σ H1 Q I1 q1
 | false=>exact ⟨.bl false,H1,I1,rfl,q1⟩
theorem pe_not(ha:PE X a ta):PE X (.UnaryOp .Not a pos) (tNotV ta):=by
 intro pins s σ H Q I h
 refine UnaryOp_ (thn (ha pins s σ H _ I h) fun v s1 ⟨x,H1,I1,r1,q1⟩=>?_)
 obtain ⟨c,rfl,q1⟩:=q1
 cases r1
 exact not_of (wpAny_truthy_bool ⟨.bl (!c),H1,I1,rfl,q1⟩)
def tIf(t:TT)(ta tb:TE):TE:=fun σ H Q=>t σ H fun c H1=>if c=true then ta σ H1 Q else tb σ H1 Q
theorem pe_ifExp{c:Expr}(hc:PT X c tA)(ha:PE X a ta)(hb:PE X b tb):PE X (.IfExp c a b pos) (tIf tA ta tb):=by
 intro pins s σ H Q I h
 refine wpAny_IfExp (thn (hc pins s σ H _ I h) fun d s1 ⟨H1,I1,q1⟩=>?_)
 cases d with
 | true=>exact ha pins s1 σ H1 Q I1 q1
 | false=>exact hb pins s1 σ H1 Q I1 q1
end
open PySem PySem.Spec PyProof.Rows
def SqL(K:PySem.W.Frag)(H:Hp)(a:Addr)(xs:List V):Prop :=
 Rd H a (.lst xs) \/
  ∃ (o:Obj) (its:Array Value) (n:Nat),K.lookup a=some o/\o.cls = .type "list" /\ o.dict=none/\o.data = .seq its n/\its.size<=sizeLine/\Vals xs its.toList
def SqT(K:PySem.W.Frag)(H:Hp)(a:Addr)(xs:List V):Prop :=
 Rd H a (.tup xs) \/
  ∃ (o:Obj) (its:Array Value) (n:Nat),K.lookup a=some o/\o.cls = .type "tuple" /\ o.data = .seq its n/\its.size<=sizeLine/\Vals xs its.toList
def absV:Value->Option V
 | .none=>some .non
 | .bool b=>some (.bl b)
 | .int i _=>some (.int i)
 | .str x _=>some (.str x)
 | .bytes b _=>some (.byt b)
 | .float b _=>some (.flt b)
 | .ref a=>some (.ref a)
 | .type n=>some (.ty n)
 | _=>none
theorem RelV.abs{x:V}{u:Value}(r:RelV x u):absV u=some x:=by
 cases x with
 | non=>cases r;rfl
 | bl _=>cases r;rfl
 | int _=>obtain ⟨t,rfl⟩:=r;rfl
 | str _=>obtain ⟨t,rfl⟩:=r;rfl
 | byt _=>obtain ⟨t,rfl⟩:=r;rfl
 | flt _=>obtain ⟨t,rfl⟩:=r;rfl
 | ref _=>cases r;rfl
 | ty _=>cases r;rfl
theorem RelV.inj{x y:V}{u:Value}(r:RelV x u)(q:RelV y u):x=y:=Option.some.inj (r.abs.symm.trans q.abs)
theorem Vals.inj:∀ {xs ys:List V} {us:List Value},Vals xs us->Vals ys us->xs=ys
 | _,_,_,.nil,.nil=>rfl
 | _,_,_,.cons r t,.cons r' t'=>by rw [r.inj r',Vals.inj t t']
section
variable {X:Cx} {pins:List (Addr×Obj)} {σ:St} {H:Hp} {s:Shared} {a:Addr} {xs ys:List V}
theorem SqL.of{K:PySem.W.Frag}(h:H a=some (.lst xs)):SqL K H a xs:=.inl (.inl h)
theorem SqT.of{K:PySem.W.Frag}(h:H a=some (.tup xs)):SqT K H a xs:=.inl (.inl h)
theorem Inv.list(I:Inv X pins σ H s)(h:SqL X.K H a xs):∃ its:List Value,Vals xs its/\PlainL s.heap a its.toArray/\xs.length<=sizeLine:=by
 rcases h with h | ⟨o,its,n,hk,hc,hd,hs,hz,r⟩
 ·obtain ⟨z,its,n,r,e⟩:=h.ok I.hok
  exact ⟨its,r,⟨_,n,e,rfl,rfl,rfl⟩,z⟩
 ·refine ⟨its.toList,r,⟨o,n,I.kIn a o hk,hc,hd,by simpa using hs⟩,?_⟩
  have e:=r.length
  simp only [Array.length_toList] at e
  lia
theorem Inv.tuple(I:Inv X pins σ H s)(h:SqT X.K H a xs):∃ its:List Value,Vals xs its/\IsTup s.heap a its.toArray/\xs.length<=sizeLine:=by
 rcases h with h | ⟨o,its,n,hk,hc,hs,hz,r⟩
 ·obtain ⟨z,its,r,p⟩:=h.ok I.hok
  exact ⟨its,r,p,z⟩
 ·refine ⟨its.toList,r,⟨o,I.kIn a o hk,hc,n,by simpa using hs⟩,?_⟩
  have e:=r.length
  simp only [Array.length_toList] at e
  lia
theorem Inv.list_inj(I:Inv X pins σ H s)(h:SqL X.K H a xs)(h':SqL X.K H a ys):xs=ys:=by
 obtain ⟨its,r,⟨o,n,e,_,_,d⟩,_⟩:=I.list h
 obtain ⟨its',r',⟨o',n',e',_,_,d'⟩,_⟩:=I.list h'
 rw [e] at e';cases e'
 rw [d] at d'
 injection d' with d1 _
 have:its=its':=by simpa using congrArg Array.toList d1
 subst this
 exact r.inj r'
theorem Inv.tuple_inj(I:Inv X pins σ H s)(h:SqT X.K H a xs)(h':SqT X.K H a ys):xs=ys:=by
 obtain ⟨its,r,⟨o,e,_,n,d⟩,_⟩:=I.tuple h
 obtain ⟨its',r',⟨o',e',_,n',d'⟩,_⟩:=I.tuple h'
 rw [e] at e';cases e'
 rw [d] at d'
 injection d' with d1 _
 have:its=its':=by simpa using congrArg Array.toList d1
 subst this
 exact r.inj r'
end
abbrev Cx.wish(X:Cx)(E:Value->Shared->Prop):Cx:={ X with xe:=E }
abbrev Cx.nox(X:Cx):Cx:=X.wish fun _ _=>False
theorem Cx.Ok.wish{X:Cx}(ok:X.Ok)(E:Value->Shared->Prop):(X.wish E).Ok :=
 ⟨ok.mod,ok.kind,ok.glob,ok.blt,ok.above,ok.inj,ok.has,ok.cab,ok.hd,ok.frames,ok.gd,ok.stk,ok.exf,ok.bs,ok.bsz,ok.noex,ok.exfs,ok.funs,ok.frf⟩
theorem Cx.Ok.unwish{X:Cx}{E:Value->Shared->Prop}(ok:(X.wish E).Ok):X.Ok :=
 ⟨ok.mod,ok.kind,ok.glob,ok.blt,ok.above,ok.inj,ok.has,ok.cab,ok.hd,ok.frames,ok.gd,ok.stk,ok.exf,ok.bs,ok.bsz,ok.noex,ok.exfs,ok.funs,ok.frf⟩
section
variable {X:Cx} {pins:List (Addr×Obj)} {σ:St} {H:Hp} {s:Shared} {E:Value->Shared->Prop}
theorem Inv.wish(I:Inv X pins σ H s)(E:Value->Shared->Prop):Inv (X.wish E) pins σ H s:=⟨I.ok.wish E,I.os,I.bare,I.base,I.loc,I.cell,I.free,I.freeC,I.pin,I.hok,I.len⟩
theorem Inv.unwish(I:Inv (X.wish E) pins σ H s):Inv X pins σ H s:=⟨I.ok.unwish,I.os,I.bare,I.base,I.loc,I.cell,I.free,I.freeC,I.pin,I.hok,I.len⟩
theorem SP.unwish{D:Ends}{f:Flow}{s':Shared}(h:SP (X.wish E) pins D f s'):SP X pins D f s':=by
 cases f with
 | next=>obtain ⟨σ',H',I,q⟩:=h;exact ⟨σ',H',I.unwish,q⟩
 | brk=>obtain ⟨σ',H',I,q⟩:=h;exact ⟨σ',H',I.unwish,q⟩
 | cont=>obtain ⟨σ',H',I,q⟩:=h;exact ⟨σ',H',I.unwish,q⟩
 | ret u=>obtain ⟨v,σ',H',I,r,q⟩:=h;exact ⟨v,σ',H',I.unwish,r,q⟩
theorem PSs.nox{st:List Stmt}{t:TS}(h:PSs X.nox st t):PSs X st t:=fun pins s σ H D I hw =>
 wpAny_mono (h pins s σ H D (I.wish _) hw) (fun _ _ q=>q.unwish) fun _ _ z=>False.elim z
end
section
variable {X:Cx} {st:Stmt} {rest:List Stmt} {t u:TS} {e:Expr} {te:TE} {pos:Pos}
def tNext:TS:=fun D σ H=>D.nx σ H
def tSeq(t u:TS):TS:=fun D σ H=>t { D with nx:=u D } σ H
theorem z_y:PSs X [] tNext:=fun _ _ σ H _ I h=>wpAny_execs_nil ⟨σ,H,I,h⟩
theorem z_b(h1:PS X st t)(h2:PSs X rest u):PSs X (st::rest) (tSeq t u):=by
 intro pins s σ H D I h
 refine wpAny_execs_cons (thn (h1 pins s σ H { D with nx:=u D } I h) fun f s1 q=>?_)
 cases f with
 | next =>
  obtain ⟨σ',H',I',q⟩:=q
  exact h2 pins s1 σ' H' D I' q
 | ret v=>exact q
 | brk=>exact q
 | cont=>exact q
theorem z_h(h1:PS X st t):PSs X [st] t:=by
 intro pins s σ H D I h
 refine wpAny_execs_cons (thn (h1 pins s σ H D I h) fun f s1 q=>?_)
 cases f with
 | next=>exact wpAny_execs_nil q
 | ret v=>exact q
 | brk=>exact q
 | cont=>exact q
theorem Inv.quiet{pins:List (Addr×Obj)}{σ:St}{H:Hp}{s:Shared}(I:Inv X pins σ H s):interactive X.env=false:=by simp [interactive,I.ok.kind]
def tDrop(te:TE):TS:=fun D σ H=>te σ H fun _ H1=>D.nx σ H1
theorem ps_expr(he:PE X e te)(hs:swapsWith e none pos.line X.env=pure false:=by rfl):PS X (.Expr e pos) (tDrop te):=by
 intro pins s σ H D I h
 exact wpAny_Expr_any (thn (he pins s σ H _ I h) fun v s1 ⟨x,H1,I1,r1,q1⟩=>⟨σ,H1,I1,q1⟩) I.quiet hs
def tRet(te:TE):TS:=fun D σ H=>te σ H D.rt
theorem z_v(he:PE X e te):PS X (.Return (some e) pos) (tRet te):=by
 intro pins s σ H D I h
 exact wpAny_Return_some (thn (he pins s σ H _ I h) fun v s1 ⟨x,H1,I1,r1,q1⟩=>⟨x,σ,H1,I1,r1,q1⟩)
def tIfS(c:TT)(t u:TS):TS:=fun D σ H=>c σ H fun b H1=>if b=true then t D σ H1 else u D σ H1
theorem y_x{c:Expr}{a b:List Stmt}{tc:TT}(hc:PT X c tc)(ha:PSs X a t)(hb:PSs X b u):PS X (.If c a b pos) (tIfS tc t u):=by
 intro pins s σ H D I h
 refine wpAny_If (thn (hc pins s σ H _ I h) fun d s1 ⟨H1,I1,q1⟩=>?_)
 cases d with
 | true=>exact ha pins s1 σ H1 D I1 q1
 | false=>exact hb pins s1 σ H1 D I1 q1
def tNever:TS:=fun _ _ _=>False
theorem x_f:PS X st tNever:=fun _ _ _ _ _ _ h=>h.elim
end
abbrev TG:=V->St->Hp->(St->Hp->Prop)->Prop
abbrev TGs:=List V->St->Hp->(St->Hp->Prop)->Prop
def PG(X:Cx)(target:Expr)(t:TG):Prop :=
 ∀ (pins:List (Addr×Obj)) (s:Shared) (σ:St) (H:Hp) (v:V) (u:Value) (Q:St->Hp->Prop),Inv X pins σ H s->RelV v u->t v σ H Q ->
  wpAny (model X.prog X.w) X.A (assign target X.env u) (fun _ s'=>∃ σ' H',Inv X pins σ' H' s'/\Q σ' H') X.xe s
def PGs(X:Cx)(ts:List Expr)(t:TGs):Prop :=
 ∀ (pins:List (Addr×Obj)) (s:Shared) (σ:St) (H:Hp) (vs:List V) (us:List Value) (Q:St->Hp->Prop),Inv X pins σ H s->Vals vs us->t vs σ H Q ->
  wpAny (model X.prog X.w) X.A (assignInOrder ((assignEach ts X.env).map (·.2)) us) (fun _ s'=>∃ σ' H',Inv X pins σ' H' s'/\Q σ' H') X.xe s
abbrev TSet:=V->V->V->Hp->(Hp->Prop)->Prop
def PSet(X:Cx)(t:TSet):Prop :=
 ∀ (pins:List (Addr×Obj)) (s:Shared) (σ:St) (H:Hp) (o i v:V) (ov iv u:Value) (Q:Hp->Prop),Inv X pins σ H s->RelV o ov->RelV i iv->RelV v u->t o i v H Q ->
  wpAny (model X.prog X.w) X.A (setItem ov iv u) (fun _ s'=>∃ H',Inv X pins σ H' s'/\Q H') X.xe s
section
variable {X:Cx} {pos:Pos}
def gName(i:Nat):TG:=fun v σ H Q=>Q (σ.set i (some v)) H
theorem y_g{i:Nat}{x:Str}(hN:X.N.Nodup)(hi:X.N[i]? = some x)(hx:Loc X.env.scope x)(hf:X.fn x=true\/X.env.scope.names.lookup x=some .local:=by first | exact .inl rfl | exact .inr rfl | assumption):PG X (.Name x pos) (gName i):=by
 intro pins s σ H v u Q I r h
 exact wpAny_assign_Name (store_ok I hN hi hx r (fun s' I'=>⟨_,H,I',h⟩) hf)
def gNil:TGs:=fun vs σ H Q=>vs=[]/\Q σ H
def gCons(t:TG)(u:TGs):TGs:=fun vs σ H Q=>∃ v r,vs=v::r/\t v σ H fun σ' H'=>u r σ' H' Q
theorem pgs_nil:PGs X [] gNil:=by
 intro pins s σ H vs us Q I r h
 obtain ⟨e,h⟩:=h
 subst e
 cases r
 exact assignInOrder_nil ⟨σ,H,I,h⟩
theorem pgs_cons{e:Expr}{es:List Expr}{t:TG}{u:TGs}(h1:PG X e t)(h2:PGs X es u)
  (hs:(assignEach (e::es) X.env).map (·.2)=assign e X.env::(assignEach es X.env).map (·.2):=by rfl):PGs X (e::es) (gCons t u):=by
 intro pins s σ H vs us Q I r h
 obtain ⟨v,vr,e1,h⟩:=h
 subst e1
 cases r with
 | cons r rr =>
  rw [hs]
  refine assignInOrder_cons (thn (h1 pins s σ H _ _ _ I r h) fun _ s1 ⟨σ1,H1,I1,q1⟩=>?_)
  exact h2 pins s1 σ1 H1 _ _ Q I1 rr q1
def gTup(K:PySem.W.Frag)(n:Nat)(t:TGs):TG:=fun v σ H Q=>∃ a xs,v = .ref a/\SqT K H a xs/\xs.length=n/\t xs σ H Q
theorem pg_tup{es:List Expr}{k:Nat}{t:TGs}{n:Nat}(hc:X.calm=true)(h:PGs X es t)
  (hn:(assignEach es X.env).length=n:=by rfl) (hst:(assignEach es X.env).findIdx? (·.1)=none:=by rfl):PG X (.Tuple es k pos) (gTup X.K n t):=by
 intro pins s σ H v u Q I r hw
 obtain ⟨a,xs,e1,hq,hl,hw⟩:=hw
 subst e1
 cases r
 obtain ⟨its,rv,ht,hz⟩:=I.tuple hq
 refine assign_Tuple_tuple (I.ok.hd hc) ht (by simp [hn,<-hl,rv.length]) hst fun h' hx=>?_
 have I1:Inv X pins σ H { s with heap:=h' }:=I.kept (t':=s.toks) fun b o e=>hx b o (Nat.ne_of_lt (Heap.lt_size e)) e
 exact h pins _ σ H xs _ Q I1 (by simpa using rv) hw
def gSub(to ti:TE)(t:TSet):TG:=fun v σ H Q=>to σ H fun o H1=>ti σ H1 fun i H2=>t o i v H2 fun H3=>Q σ H3
theorem pg_sub{o i:Expr}{to ti:TE}{t:TSet}(ho:PE X o to)(hi:PE X i ti)(hs:PSet X t)
  (ha:∀ v,assign (.Subscript o i pos) X.env v=(do
   let ov <-holding [v] (eval o X.env)
   let iv <-holding [v,ov] (eval i X.env)
   standAt pos
   holding [v,ov,iv] (setItem ov iv v)
   release [v,ov,iv] []):=by intro _;rfl):PG X (.Subscript o i pos) (gSub to ti t):=by
 intro pins s σ H v u Q I r h
 rw [ha]
 refine wpAny_bind (wpAny_holding (thn (ho pins s σ H _ I h) fun ov s1 ⟨x,H1,I1,r1,q1⟩=>?_))
 refine wpAny_bind (wpAny_holding (thn (hi pins s1 σ H1 _ I1 q1) fun iv s2 ⟨y,H2,I2,r2,q2⟩=>?_))
 refine wpAny_bind (wpAny_standAt (wpAny_bind (wpAny_holding (thn (hs pins s2 σ H2 x y v ov iv u _ I2 r1 r2 r q2) fun _ s3 ⟨H3,I3,q3⟩=>?_))))
 exact wpAny_release ⟨σ,H3,I3,q3⟩
def tAsg(te:TE)(g:TG):TS:=fun D σ H=>te σ H fun x H1=>g x σ H1 D.nx
theorem ps_asg{tg e:Expr}{te:TE}{g:TG}(he:PE X e te)(hg:PG X tg g)(hs:swapsWithSole [tg] e pos.line X.env=pure false:=by rfl)(hw:swappedStores [tg] e X.env=pure none:=by rfl)
  (h1:(assignEach [tg] X.env).map (·.2)=[assign tg X.env]:=by rfl):PS X (.Assign [tg] e pos) (tAsg te g):=by
 intro pins s σ H D I h
 refine wpAny_Assign_stores (thn (he pins s σ H _ I h) fun v s1 ⟨x,H1,I1,r1,q1⟩=>?_) hs hw
 rw [h1]
 exact thn (hg pins s1 σ H1 x v _ I1 r1 q1) fun _ s2 q=>q
theorem z_p{i:Nat}{x:Str}{e:Expr}{te:TE}{pos':Pos}(hN:X.N.Nodup)(hi:X.N[i]? = some x)(hx:Loc X.env.scope x)(he:PE X e te)(hs:swapsWith e (some (.Name x pos')) pos.line X.env=pure false:=by rfl)(hf:X.fn x=true\/X.env.scope.names.lookup x=some .local:=by first | exact .inl rfl | exact .inr rfl | assumption) :
  PS X (.Assign [.Name x pos'] e pos) (tAsg te (gName i)):=by
 intro pins s σ H D I h
 refine wpAny_Assign_Name (thn (he pins s σ H _ I h) fun v s1 ⟨y,H1,I1,r1,q1⟩=>?_) hs
 exact store_ok I1 hN hi hx r1 (fun s2 I2=>⟨_,H1,I2,q1⟩) hf
end
section
variable {X:Cx} {pos:Pos}
def tWhile(c:TT)(tb:TS):TS:=fun D σ H=>∃ W:Nat->St->Hp->Prop,(∃ m,W m σ H)/\∀ m σ H,W m σ H ->
 c σ H fun b H1=>if b=true then ∃ N:St->Hp->Prop,(∀ σ' H',N σ' H'->∃ m',m'<m/\W m' σ' H')/\tb { D with nx:=N,ct:=N,bk:=D.nx } σ H1 else D.nx σ H1
theorem ps_while{c:Expr}{body:List Stmt}{tc:TT}{tb:TS}(hp:PassesOwn (model X.prog X.w) X.A X.env X.xe)(hc:PT X c tc)(hb:PSs X body tb):PS X (.While c body [] pos) (tWhile tc tb):=by
 intro pins s σ H D I h
 obtain ⟨W,⟨m0,w0⟩,turn⟩:=h
 refine wpAny_While (codeAny_whileLoop (fun n s'=>∃ σ' H',Inv X pins σ' H' s'/\W n σ' H') ?_ m0 ⟨σ,H,I,w0⟩)
 rintro n s1 ⟨σ1,H1,I1,w1⟩
 refine wpAny_passesOwn hp (thn (hc pins s1 σ1 H1 _ I1 (turn n σ1 H1 w1)) fun b s2 ⟨H2,I2,q2⟩=>?_)
 cases b with
 | true =>
  obtain ⟨N,hN,q2⟩:=q2
  rw [if_pos rfl]
  refine wpAny_passesOwn hp (thn (hb pins s2 σ1 H2 _ I2 q2) fun f s3 q3=>?_)
  cases f with
  | next =>
   obtain ⟨σ3,H3,I3,n3⟩:=q3
   obtain ⟨m',hm,w3⟩:=hN σ3 H3 n3
   exact ⟨m',hm,σ3,H3,I3,w3⟩
  | cont =>
   obtain ⟨σ3,H3,I3,n3⟩:=q3
   obtain ⟨m',hm,w3⟩:=hN σ3 H3 n3
   exact ⟨m',hm,σ3,H3,I3,w3⟩
  | brk=>exact q3
  | ret v=>exact q3
 | false =>
  rw [if_neg Bool.false_ne_true]
  exact wpAny_execs_nil ⟨σ1,H2,I2,q2⟩
end
structure It where
 go:Nat->Hp->Prop
 yld:Nat->Hp->V->Hp->Prop
 stop:Nat->Hp->Prop
def FpOk(X:Cx)(pins:List (Addr×Obj))(H:Hp)(b:Addr):Prop :=
 H b=none/\b≠X.env.locals/\b∉X.fs/\(b∈X.ex\/X.s₀.heap.objs.size<=b)/\(∀ x c,X.env.cells.lookup x=some c->c≠b)/\∀ p∈X.pn++pins,p.1≠b
theorem Inv.fpOk{X:Cx}{pins:List (Addr×Obj)}{σ:St}{H H':Hp}{s:Shared}{b:Addr}(I:Inv X pins σ H s)(hb:s.heap.objs.size<=b)(hn:H' b=none):FpOk X pins H' b:=by
 refine ⟨hn,Nat.ne_of_gt (Nat.lt_of_lt_of_le I.lt hb),I.nofs hb,.inr (Nat.le_trans I.sz hb),fun x c e z=>?_,fun p hp z=>?_⟩
 ·obtain ⟨v,q⟩:=I.cell x c e
  exact absurd (Nat.lt_of_lt_of_le q.lt (by rw [z];exact hb)) (Nat.lt_irrefl _)
 ·exact absurd (Nat.lt_of_lt_of_le (Heap.lt_size (I.pin p hp).1) (by rw [z];exact hb)) (Nat.lt_irrefl _)
structure Turn(P:Program)(w:World)(K:PySem.W.Frag)(tg:Expr)(J:It)(fp:List Addr)(it:Addr)(tn:Nat->Heap->Prop):Prop where
 mem:it∈fp
 obj:∀ i h,tn i h->∀ b∈fp,∃ o,h.get? b=some o/\∀ v,o.data ≠ .cell v
 keep:∀ i h h',tn i h->(∀ b∈fp,∀ o,h.get? b=some o->h'.get? b=some o)->tn i h'
 item:∀ (X:Cx),X.prog=P->X.w=w->X.K=K->X.calm=true->∀ (i:Nat) (pins:List (Addr×Obj)) (s:Shared) (σ:St) (H:Hp) (E:Value->Shared->Prop),Inv X pins σ H s->(∀ b∈fp,FpOk X pins H b)->tn i s.heap->J.go i H ->
  wpAny (model P w) X.A (pyNext (.ref it)) (fun r s1=>∃ u,r=some u /\
   wpAny (model P w) X.A (letOwnedTupleGo tg (.ref it) u) (fun _ s2=>∃ x H',Inv X pins σ H' s2/\RelV x u/\J.yld i H x H'/\tn (i+1) s2.heap/\∀ b∈fp,H' b=none) E s1) E s
 done:∀ (X:Cx),X.prog=P->X.w=w->X.K=K->X.calm=true->∀ (i:Nat) (pins:List (Addr×Obj)) (s:Shared) (σ:St) (H:Hp) (E:Value->Shared->Prop),Inv X pins σ H s->(∀ b∈fp,FpOk X pins H b)->tn i s.heap->J.stop i H ->
  wpAny (model P w) X.A (pyNext (.ref it)) (fun r s1=>r=none/\Inv X pins σ H s1) E s
 self:∀ (A:Around) (i:Nat) (s:Shared) (Q:Value->Shared->Prop) (E:Value->Shared->Prop),tn i s.heap->Q (.ref it) s->wpAny (model P w) A (pyIter (.ref it)) Q E s
abbrev TI:=St->Hp->(It->Hp->Prop)->Prop
def PIE(X:Cx)(pins:List (Addr×Obj))(σ:St)(tg:Expr)(R:It->Hp->Prop)(itv:Value)(s2:Shared):Prop :=
 ∃ (it:Addr) (fp:List Addr) (tn:Nat->Heap->Prop) (J:It) (H':Hp),itv = .ref it/\Inv X pins σ H' s2/\Turn X.prog X.w X.K tg J fp it tn/\tn 0 s2.heap/\(∀ b∈fp,FpOk X pins H' b)/\R J H'
def PI(X:Cx)(tg iter:Expr)(wi:TI):Prop :=
 ∀ (pins:List (Addr×Obj)) (s:Shared) (σ:St) (H:Hp) (R:It->Hp->Prop),Inv X pins σ H s->wi σ H R ->
  wpAny (model X.prog X.w) X.A (eval iter X.env) (fun v s1=>wpAny (model X.prog X.w) X.A (pyIter v) (PIE X pins σ tg R) X.xe s1) X.xe s
theorem go_of{M : Model}{A : Around}{E : Value -> Shared -> Prop}{s : Shared}{tg : Expr}{it : Addr}{u : Value}{o : Obj}{n : String}{vs : Array Value}{Q : Unit -> Shared -> Prop}(ho : s.heap.get? it = some o)(hc : o.cls = .type n)(hd : o.data = .fields vs)
    (hn : ["enumerate", "zip", "dict_itemiterator", "dict_reverseitemiterator", "odict_iterator", "itertools.zip_longest", "itertools.pairwise"].contains n = false) (hQ : Q () s) : wpAny M A (letOwnedTupleGo tg (.ref it) u) Q E s := by
  unfold letOwnedTupleGo
  cases tg <;> first
    | exact wpAny_pure hQ
    | (cases u <;> first
        | exact wpAny_pure hQ
        | (refine wpAny_bind (wpAny_load ho ?_)
           rw [hc, hd]
           show wpAny M A (if (["enumerate", "zip", "dict_itemiterator", "dict_reverseitemiterator", "odict_iterator", "itertools.zip_longest", "itertools.pairwise"].contains n && vs[0]? == some (rawInt _)) = true then _ else _) Q E s
           rw [if_neg (by intro h; rw [hn, Bool.false_and] at h; cases h)]
           exact wpAny_pure hQ))
def Itl(K:PySem.W.Frag)(a:Addr):It :=
 ⟨fun i H=>∃ xs x,SqL K H a xs/\xs[i]? = some x,fun i H x H'=>H'=H/\∀ xs,SqL K H a xs->xs[i]? = some x,fun i H=>∃ xs,SqL K H a xs/\xs.length<=i⟩
def Itt(K:PySem.W.Frag)(a:Addr):It :=
 ⟨fun i H=>∃ xs x,SqT K H a xs/\xs[i]? = some x,fun i H x H'=>H'=H/\∀ xs,SqT K H a xs->xs[i]? = some x,fun i H=>∃ xs,SqT K H a xs/\xs.length<=i⟩
def Itr(lo:Int)(n:Nat):It:=⟨fun i _=>i<n,fun i H x H'=>H'=H/\x = .int (lo+i),fun i _=>n<=i⟩
theorem turn_list{P:Program}{w:World}{K:PySem.W.Frag}{tg:Expr}(a it:Addr):Turn P w K tg (Itl K a) [it] it (fun i h=>h.IsListIter it a i) where
 mem:=by simp
 obj:=fun i h st b hb=>by
  have e:b=it:=by simpa using hb
  subst e
  obtain ⟨o,e,c,d⟩:=st
  exact ⟨o,e,fun v z=>by rw [d] at z;cases z⟩
 keep:=fun i h h' st k=>st.at fun o e=>k it (by simp) o e
 item:=by
  intro X hP hw hK hc i pins s σ H E I hf st hg
  subst hP hw hK
  obtain ⟨xs,x,hq,hx⟩:=hg
  obtain ⟨its,rv,p,hz⟩:=I.list hq
  obtain ⟨u,hu,ru⟩:=rv.get hx
  obtain ⟨f0,f1,f2,f3,f4,f5⟩:=hf it (by simp)
  refine wpAny_pyNext_list_item st p.isList (x:=u) (by simpa using hu) fun h' st' sb=>?_
  have I1:Inv X pins σ H { s with heap:=h' }:=I.turned (t':=s.toks) (fun b o hb e=>(sb.2 b hb).trans e) f0 f1 f3 f4 f5
  obtain ⟨o,e,c,d⟩:=id st'
  exact ⟨u,rfl,go_of (s:={ s with heap:=h' }) e c d (by decide) ⟨x,H,I1,ru,⟨rfl,fun ys hy=>by rw [I.list_inj hy hq];exact hx⟩,st',fun b hb=>(hf b hb).1⟩⟩
 done:=by
  intro X hP hw hK hc i pins s σ H E I hf st hg
  subst hP hw hK
  obtain ⟨xs,hq,hx⟩:=hg
  obtain ⟨its,rv,p,hz⟩:=I.list hq
  obtain ⟨f0,f1,f2,f3,f4,f5⟩:=hf it (by simp)
  have hl:=rv.length
  exact wpAny_pyNext_list_end (I.ok.hd hc) st p.isList (by simp;lia) fun h' eb=>⟨rfl,I.turned (t':=s.toks) (fun b o hb e=>eb b o hb e) f0 f1 f3 f4 f5⟩
 self:=fun _ _ _ _ _ st h=>wpAny_pyIter_listiter st h
theorem turn_tuple{P:Program}{w:World}{K:PySem.W.Frag}{tg:Expr}(a it:Addr):Turn P w K tg (Itt K a) [it] it (fun i h=>h.IsTupleIter it a i) where
 mem:=by simp
 obj:=fun i h st b hb=>by
  have e:b=it:=by simpa using hb
  subst e
  obtain ⟨o,e,c,d⟩:=st
  exact ⟨o,e,fun v z=>by rw [d] at z;cases z⟩
 keep:=fun i h h' st k=>st.at fun o e=>k it (by simp) o e
 item:=by
  intro X hP hw hK hc i pins s σ H E I hf st hg
  subst hP hw hK
  obtain ⟨xs,x,hq,hx⟩:=hg
  obtain ⟨its,rv,p,hz⟩:=I.tuple hq
  obtain ⟨u,hu,ru⟩:=rv.get hx
  obtain ⟨f0,f1,f2,f3,f4,f5⟩:=hf it (by simp)
  refine wpAny_pyNext_tuple_item st (show s.heap.IsTuple a its.toArray from p) (x:=u) (by simpa using hu) fun h' st' sb=>?_
  have I1:Inv X pins σ H { s with heap:=h' }:=I.turned (t':=s.toks) (fun b o hb e=>(sb.2 b hb).trans e) f0 f1 f3 f4 f5
  obtain ⟨o,e,c,d⟩:=id st'
  exact ⟨u,rfl,go_of (s:={ s with heap:=h' }) e c d (by decide) ⟨x,H,I1,ru,⟨rfl,fun ys hy=>by rw [I.tuple_inj hy hq];exact hx⟩,st',fun b hb=>(hf b hb).1⟩⟩
 done:=by
  intro X hP hw hK hc i pins s σ H E I hf st hg
  subst hP hw hK
  obtain ⟨xs,hq,hx⟩:=hg
  obtain ⟨its,rv,p,hz⟩:=I.tuple hq
  obtain ⟨f0,f1,f2,f3,f4,f5⟩:=hf it (by simp)
  have hl:=rv.length
  exact wpAny_pyNext_tuple_end (I.ok.hd hc) st (show s.heap.IsTuple a its.toArray from p) (by simp;lia) fun h' eb=>⟨rfl,I.turned (t':=s.toks) (fun b o hb e=>eb b o hb e) f0 f1 f3 f4 f5⟩
 self:=fun _ _ _ _ _ st h=>wpAny_pyIter_tupleiter st h
theorem turn_range{P:Program}{w:World}{K:PySem.W.Frag}{tg:Expr}(it:Addr)(lo:Int)(n:Nat):Turn P w K tg (Itr lo n) [it] it (fun i h=>IsRangeIter h it (lo+(i:Nat)*1) ((n:Int)-(i:Nat)) 1) where
 mem:=by simp
 obj:=fun i h st b hb=>by
  have e:b=it:=by simpa using hb
  subst e
  exact ⟨_,st,fun v z=>by
   have z':Data.fields _=Data.cell v:=z
   cases z'⟩
 keep:=fun i h h' st k=>k it (by simp) _ st
 item:=by
  intro X hP hw hK hc i pins s σ H E I hf st hg
  subst hP hw hK
  obtain ⟨f0,f1,f2,f3,f4,f5⟩:=hf it (by simp)
  have W:=Walks.range (prog:=X.prog) (w:=X.w) (I.ok.hd hc) it lo 1 n
  refine W.item i s _ _ hg st fun v h' tk hv st' kk=>?_
  obtain ⟨t,rfl⟩:=hv
  have I1:Inv X pins σ H { s with heap:=h',toks:=tk }:=I.turned (fun b o hb e=>kk b o (by simpa using hb) e) f0 f1 f3 f4 f5
  refine ⟨_,rfl,go_of (s:={ s with heap:=h',toks:=tk }) (n := "range_iterator") st' rfl rfl (by decide) ⟨.int (lo+i),H,I1,⟨t,?_⟩,⟨rfl,rfl⟩,st',fun b hb=>(hf b hb).1⟩⟩
  rw [Int.mul_one]
 done:=by
  intro X hP hw hK hc i pins s σ H E I hf st hg
  subst hP hw hK
  obtain ⟨f0,f1,f2,f3,f4,f5⟩:=hf it (by simp)
  exact wpAny_pyNext_range_end (I.ok.hd hc) st (by have:n<=i:=hg;lia) fun h' eb=>⟨rfl,I.turned (t':=s.toks) (fun b o hb e=>eb b o hb e) f0 f1 f3 f4 f5⟩
 self:=fun _ _ _ _ _ st h=>wpAny_pyIter_rangeiter st h
open PySem PySem.Spec PyProof.Rows
section
variable {X:Cx} {tg:Expr}
def iList(K:PySem.W.Frag)(tl:TE):TI:=fun σ H R=>tl σ H fun x H1=>∃ a,x = .ref a/\(∃ xs,SqL K H1 a xs)/\R (Itl K a) H1
def iTup(K:PySem.W.Frag)(tl:TE):TI:=fun σ H R=>tl σ H fun x H1=>∃ a,x = .ref a/\(∃ xs,SqT K H1 a xs)/\R (Itt K a) H1
theorem y_r{l:Expr}{tl:TE}(hl:PE X l tl):PI X tg l (iList X.K tl):=by
 intro pins s σ H R I h
 refine thn (hl pins s σ H _ I h) fun v s1 ⟨x,H1,I1,r1,q1⟩=>?_
 obtain ⟨a,e,⟨xs,hq⟩,q⟩:=q1
 subst e
 cases r1
 obtain ⟨its,rv,p,hz⟩:=I1.list hq
 refine wpAny_pyIter_list p.isList ?_
 refine ⟨s1.heap.objs.size,[s1.heap.objs.size],_,_,H1,rfl,I1.kept (t':=s1.toks) fun b o e=>Heap.get?_push_of_some _ e,turn_list a _,⟨_,Heap.get?_push_size _ rfl,rfl,rfl⟩,fun b hb=>?_,q⟩
 have e:b=s1.heap.objs.size:=by simpa using hb
 subst e
 exact I1.fpOk (Nat.le_refl _) (I1.hok.fresh (Nat.le_refl _))
theorem pi_tup{l:Expr}{tl:TE}(hl:PE X l tl):PI X tg l (iTup X.K tl):=by
 intro pins s σ H R I h
 refine thn (hl pins s σ H _ I h) fun v s1 ⟨x,H1,I1,r1,q1⟩=>?_
 obtain ⟨a,e,⟨xs,hq⟩,q⟩:=q1
 subst e
 cases r1
 obtain ⟨its,rv,p,hz⟩:=I1.tuple hq
 refine wpAny_pyIter_tuple (show s1.heap.IsTuple a its.toArray from p) ?_
 refine ⟨s1.heap.objs.size,[s1.heap.objs.size],_,_,H1,rfl,I1.kept (t':=s1.toks) fun b o e=>Heap.get?_push_of_some _ e,turn_tuple a _,⟨_,Heap.get?_push_size _ rfl,rfl,rfl⟩,fun b hb=>?_,q⟩
 have e:b=s1.heap.objs.size:=by simpa using hb
 subst e
 exact I1.fpOk (Nat.le_refl _) (I1.hok.fresh (Nat.le_refl _))
theorem range_it{pins:List (Addr×Obj)}{σ:St}{H:Hp}{s:Shared}{R:It->Hp->Prop}{E:Value->Shared->Prop}{lo hi:Int}{t u v:Tok}{tk:Nat}(I:Inv X pins σ H s)(h1 : -(2^62)<=lo)(h2:lo<2^62)(h3 : -(2^62)<=hi)(h4:hi<2^62)
  (q:R (Itr lo (hi-lo).toNat) H):wpAny (model X.prog X.w) X.A (pyIter (.ref s.heap.objs.size)) (PIE X pins σ tg R) E { s with heap:=s.heap.push { cls:=.type "range",data:=.fields #[.int lo t,.int hi u,.int 1 v] },toks:=tk }:=by
 refine wpAny_pyIter_range (IsRange.new ..) (small_one h1 h2 h3 h4) ?_
 have I1:Inv X pins σ H { s with heap:=s.heap.push { cls:=.type "range",data:=.fields #[.int lo t,.int hi u,.int 1 v] },toks:=tk }:=I.kept fun b o e=>Heap.get?_push_of_some _ e
 refine ⟨(s.heap.push { cls:=.type "range",data:=.fields #[.int lo t,.int hi u,.int 1 v] }).objs.size,[(s.heap.push { cls:=.type "range",data:=.fields #[.int lo t,.int hi u,.int 1 v] }).objs.size],_,_,H,rfl,
  I1.kept (t':=tk) fun b o e=>Heap.get?_push_of_some _ e,turn_range _ lo (hi-lo).toNat,?_,fun b hb=>?_,q⟩
 ·have e1:lo+((0:Nat):Int)*1=lo:=by simp
  have e2:(((hi-lo).toNat:Nat):Int)-((0:Nat):Int)=Builtin.Range.rangeSize lo hi 1:=by rw [rangeSize_one];split<;>lia
  show IsRangeIter _ _ (lo+((0:Nat):Int)*1) ((((hi-lo).toNat:Nat):Int)-((0:Nat):Int)) 1
  rw [e1,e2]
  exact Heap.get?_push_size _ rfl
 ·have e:b=(s.heap.push { cls:=.type "range",data:=.fields #[.int lo t,.int hi u,.int 1 v] }).objs.size:=by simpa using hb
  subst e
  exact I1.fpOk (Nat.le_refl _) (I1.hok.fresh (Nat.le_refl _))
def iRng1(ta:TA):TI:=fun σ H R=>ta σ H fun vs H1=>∃ j:Int,vs=[.int j] /\ -(2^62)<=j/\j<2^62/\R (Itr 0 j.toNat) H1
theorem y_w{a:Expr}{ta:TA}{p pos:Pos}(hg:Gl X "range")(hm:X.mg "range" = none)(ha:PA X [a] ta)(hs:starEach [a] X.env=[(false,eval a X.env)]:=by rfl):PI X tg (.Call (.Name "range" p) [a] [] pos) (iRng1 ta):=by
 intro pins s σ H R I h
 refine Call_ (ld_blt I hg hm boot_range (PyProof.Rows.callWith_type1 (thn (ha pos pins s σ H _ I h) fun us s1 ⟨vs,H1,I1,r1,q1⟩=>?_) hs rfl))
 obtain ⟨j,e,q1,q2,q⟩:=q1
 subst e
 cases r1 with
 | cons r rr =>
  cases rr
  obtain ⟨t,rfl⟩:=r
  exact call_range_1 (range_it I1 (by lia) (by lia) q1 q2 (by simpa using q))
def tFor(wi:TI)(g:TG)(tb:TS):TS:=fun D σ H=>wi σ H fun J H1=>∃ W:Nat->Nat->St->Hp->Prop,(∃ m,W 0 m σ H1)/\∀ i m σ H,W i m σ H ->
 (J.stop i H/\D.nx σ H)\/(J.go i H/\∃ N:St->Hp->Prop,(∀ σ' H',N σ' H'->∃ m',m'<m/\W (i+1) m' σ' H')/\∀ x H',J.yld i H x H'->g x σ H' fun σ2 H2=>tb { D with nx:=N,ct:=N,bk:=D.nx } σ2 H2)
def pinsAt(fp:List Addr)(h:Heap):List (Addr×Obj):=fp.filterMap fun b=>(h.get? b).map fun o=>(b,o)
theorem mem_pinsAt{fp:List Addr}{h:Heap}{b:Addr}{o:Obj}(hb:b∈fp)(e:h.get? b=some o):(b,o)∈pinsAt fp h:=List.mem_filterMap.mpr ⟨b,hb,by rw [e];rfl⟩
theorem of_pinsAt{fp:List Addr}{h:Heap}{p:Addr×Obj}(hp:p∈pinsAt fp h):p.1∈fp/\h.get? p.1=some p.2:=by
 obtain ⟨b,hb,e⟩:=List.mem_filterMap.mp hp
 cases q:h.get? b with
 | none=>rw [q] at e;cases e
 | some o =>
  rw [q] at e
  have e':(b,o)=p:=Option.some.inj e
  subst e'
  exact ⟨hb,q⟩
theorem Inv.pinned{pins:List (Addr×Obj)}{σ:St}{H:Hp}{s:Shared}{fp:List Addr}(I:Inv X pins σ H s)(hf:∀ b∈fp,FpOk X pins H b)(ho:∀ b∈fp,∃ o,s.heap.get? b=some o/\∀ v,o.data ≠ .cell v):Inv X (pins++pinsAt fp s.heap) σ H s :=
 I.pins_of fun p hp=>(List.mem_append.mp hp).elim (fun z=>I.pin p (List.mem_append_right _ z)) fun z=>by
  obtain ⟨hb,e⟩:=of_pinsAt z
  obtain ⟨f0,f1,f2,_⟩:=hf p.1 hb
  obtain ⟨o,e',d⟩:=ho p.1 hb
  rw [e] at e';cases e'
  exact ⟨e,f0,f1,f2,d⟩
theorem Inv.unpinned{pins pl:List (Addr×Obj)}{σ:St}{H:Hp}{s:Shared}(I:Inv X (pins++pl) σ H s):Inv X pins σ H s:=I.pins_of fun p hp=>I.pin p (List.mem_append_right _ (List.mem_append_left _ hp))
theorem ps_for{iter:Expr}{body:List Stmt}{wi:TI}{g:TG}{tb:TS}{pos:Pos}(hp:PassesOwn (model X.prog X.w) X.A X.env X.xe)(hc:X.calm=true)(hi:PI X tg iter wi)(hg:PG X tg g)(hb:PSs X body tb)
  (hs:∀ x,foldedSetIterable iter X.env x=pure x:=by intro _;rfl):PS X (.For tg iter body [] pos) (tFor wi g tb):=by
 intro pins s σ H D I h
 refine wpAny_For (thn (hi pins s σ H _ I h) fun v s1 h1=>thn h1 fun itv s2 h2=>?_) hs
 obtain ⟨it,fp,tn,J,H2,e,I2,T,st2,f2,W,⟨m0,w0⟩,turn⟩:=h2
 subst e
 have stat:∀ {H':Hp},(∀ b∈fp,H' b=none)->∀ b∈fp,FpOk X pins H' b:=fun hn b hb=>⟨hn b hb,(f2 b hb).2⟩
 refine codeAny_forLoop_any (fun n s'=>∃ i σ' H',Inv X pins σ' H' s'/\tn i s'.heap/\(∀ b∈fp,H' b=none)/\W i n σ' H') ?_ m0 ⟨0,σ,H2,I2,st2,fun b hb=>(f2 b hb).1,w0⟩
 rintro n s3 ⟨i,σ3,H3,I3,st3,fr3,w3⟩
 rcases turn i n σ3 H3 w3 with ⟨stop,qn⟩ | ⟨go,N,hN,step⟩
 ·refine wpAny_passesOwn hp (thn (T.done X rfl rfl rfl hc i pins s3 σ3 H3 X.xe I3 (stat fr3) st3 stop) fun r s4 ⟨hr,I4⟩=>?_)
  subst hr
  exact wpAny_execs_nil ⟨σ3,H3,I4,qn⟩
 ·refine wpAny_passesOwn hp (thn (T.item X rfl rfl rfl hc i pins s3 σ3 H3 X.xe I3 (stat fr3) st3 go) fun r s4 ⟨u,hr,h4⟩=>?_)
  subst hr
  refine wpAny_passesOwn hp (thn h4 fun _ s5 ⟨x,H5,I5,r5,y5,st5,fr5⟩=>?_)
  have I5':=I5.pinned (stat fr5) (T.obj _ _ st5)
  refine wpAny_passesOwn hp (thn (hg _ s5 σ3 H5 x u _ I5' r5 (step x H5 y5)) fun _ s6 ⟨σ6,H6,I6,q6⟩=>?_)
  refine wpAny_passesOwn hp (thn (hb _ s6 σ6 H6 _ I6 q6) fun f s7 q7=>?_)
  have again:∀ {σ7:St} {H7:Hp},Inv X (pins++pinsAt fp s5.heap) σ7 H7 s7->N σ7 H7->∃ m,m<n/\∃ i σ' H',Inv X pins σ' H' s7/\tn i s7.heap/\(∀ b∈fp,H' b=none)/\W i m σ' H':=fun {σ7 H7} I7 n7=>by
   obtain ⟨m',hm,w7⟩:=hN σ7 H7 n7
   refine ⟨m',hm,i+1,σ7,H7,I7.unpinned,T.keep _ _ _ st5 fun b hb o e=>(I7.pin (b,o) (List.mem_append_right _ (List.mem_append_right _ (mem_pinsAt hb e)))).1,fun b hb=>?_,w7⟩
   obtain ⟨o,e,d⟩:=T.obj _ _ st5 b hb
   exact (I7.pin (b,o) (List.mem_append_right _ (List.mem_append_right _ (mem_pinsAt hb e)))).2.1
  cases f with
  | next=>obtain ⟨σ7,H7,I7,n7⟩:=q7;exact again I7 n7
  | cont=>obtain ⟨σ7,H7,I7,n7⟩:=q7;exact again I7 n7
  | brk=>obtain ⟨σ7,H7,I7,q7⟩:=q7;exact ⟨σ7,H7,I7.unpinned,q7⟩
  | ret v=>obtain ⟨x7,σ7,H7,I7,r7,q7⟩:=q7;exact ⟨x7,σ7,H7,I7.unpinned,r7,q7⟩
end
theorem for_list{K:PySem.W.Frag}{a:Addr}{xs:List V}{g:TG}{tb:TS}{D:Ends}{σ:St}{H:Hp}(Pv:Nat->St->Hp->Prop)(h0:Pv 0 σ H)(hl:∀ i σ H,i<=xs.length->Pv i σ H->SqL K H a xs)
  (hs:∀ i x σ H,xs[i]? = some x->Pv i σ H->g x σ H fun σ2 H2=>tb { D with nx:=Pv (i+1),ct:=Pv (i+1),bk:=D.nx } σ2 H2) (hd:∀ σ H,Pv xs.length σ H->D.nx σ H) :
  ∃ W:Nat->Nat->St->Hp->Prop,(∃ m,W 0 m σ H)/\∀ i m σ H,W i m σ H ->
   ((Itl K a).stop i H/\D.nx σ H)\/((Itl K a).go i H/\∃ N:St->Hp->Prop,(∀ σ' H',N σ' H'->∃ m',m'<m/\W (i+1) m' σ' H')/\∀ x H',(Itl K a).yld i H x H'->g x σ H' fun σ2 H2=>tb { D with nx:=N,ct:=N,bk:=D.nx } σ2 H2):=by
 refine ⟨fun i m σ H=>m=xs.length-i/\i<=xs.length/\Pv i σ H,⟨xs.length,by simp,Nat.zero_le _,h0⟩,?_⟩
 rintro i m σ H ⟨rfl,hi,p⟩
 have q:=hl i σ H hi p
 by_cases hlt:i<xs.length
 ·refine .inr ⟨⟨xs,xs[i],q,by simp [hlt]⟩,Pv (i+1),fun σ' H' p'=>⟨xs.length-(i+1),by lia,rfl,hlt,p'⟩,fun x H' y=>?_⟩
  obtain ⟨e,y⟩:=y
  subst e
  exact hs i x σ _ (y xs q) p
 ·have e:i=xs.length:=by lia
  subst e
  exact .inl ⟨⟨xs,q,Nat.le_refl _⟩,hd σ H p⟩
theorem for_tup{K:PySem.W.Frag}{a:Addr}{xs:List V}{g:TG}{tb:TS}{D:Ends}{σ:St}{H:Hp}(Pv:Nat->St->Hp->Prop)(h0:Pv 0 σ H)(hl:∀ i σ H,i<=xs.length->Pv i σ H->SqT K H a xs)
  (hs:∀ i x σ H,xs[i]? = some x->Pv i σ H->g x σ H fun σ2 H2=>tb { D with nx:=Pv (i+1),ct:=Pv (i+1),bk:=D.nx } σ2 H2) (hd:∀ σ H,Pv xs.length σ H->D.nx σ H) :
  ∃ W:Nat->Nat->St->Hp->Prop,(∃ m,W 0 m σ H)/\∀ i m σ H,W i m σ H ->
   ((Itt K a).stop i H/\D.nx σ H)\/((Itt K a).go i H/\∃ N:St->Hp->Prop,(∀ σ' H',N σ' H'->∃ m',m'<m/\W (i+1) m' σ' H')/\∀ x H',(Itt K a).yld i H x H'->g x σ H' fun σ2 H2=>tb { D with nx:=N,ct:=N,bk:=D.nx } σ2 H2):=by
 refine ⟨fun i m σ H=>m=xs.length-i/\i<=xs.length/\Pv i σ H,⟨xs.length,by simp,Nat.zero_le _,h0⟩,?_⟩
 rintro i m σ H ⟨rfl,hi,p⟩
 have q:=hl i σ H hi p
 by_cases hlt:i<xs.length
 ·refine .inr ⟨⟨xs,xs[i],q,by simp [hlt]⟩,Pv (i+1),fun σ' H' p'=>⟨xs.length-(i+1),by lia,rfl,hlt,p'⟩,fun x H' y=>?_⟩
  obtain ⟨e,y⟩:=y
  subst e
  exact hs i x σ _ (y xs q) p
 ·have e:i=xs.length:=by lia
  subst e
  exact .inl ⟨⟨xs,q,Nat.le_refl _⟩,hd σ H p⟩
theorem for_range{lo:Int}{n:Nat}{g:TG}{tb:TS}{D:Ends}{σ:St}{H:Hp}(Pv:Nat->St->Hp->Prop)(h0:Pv 0 σ H)
  (hs:∀ i σ H,i<n->Pv i σ H->g (.int (lo+i)) σ H fun σ2 H2=>tb { D with nx:=Pv (i+1),ct:=Pv (i+1),bk:=D.nx } σ2 H2) (hd:∀ σ H,Pv n σ H->D.nx σ H) :
  ∃ W:Nat->Nat->St->Hp->Prop,(∃ m,W 0 m σ H)/\∀ i m σ H,W i m σ H ->
   ((Itr lo n).stop i H/\D.nx σ H)\/((Itr lo n).go i H/\∃ N:St->Hp->Prop,(∀ σ' H',N σ' H'->∃ m',m'<m/\W (i+1) m' σ' H')/\∀ x H',(Itr lo n).yld i H x H'->g x σ H' fun σ2 H2=>tb { D with nx:=N,ct:=N,bk:=D.nx } σ2 H2):=by
 refine ⟨fun i m σ H=>m=n-i/\i<=n/\Pv i σ H,⟨n,by simp,Nat.zero_le _,h0⟩,?_⟩
 rintro i m σ H ⟨rfl,hi,p⟩
 by_cases hlt:i<n
 ·refine .inr ⟨hlt,Pv (i+1),fun σ' H' p'=>⟨n-(i+1),by lia,rfl,hlt,p'⟩,fun x H' y=>?_⟩
  obtain ⟨e,y⟩:=y
  subst e y
  exact hs i σ _ hlt p
 ·have e:i=n:=by lia
  subst e
  exact .inl ⟨Nat.le_refl _,hd σ H p⟩
theorem while_by{c:TT}{tb:TS}{D:Ends}{σ:St}{H:Hp}(Pv:St->Hp->Prop)(μ:St->Hp->Nat)(h0:Pv σ H)
  (hs:∀ σ H,Pv σ H->c σ H fun b H1=>if b=true then tb { D with nx:=fun σ' H'=>Pv σ' H'/\μ σ' H'<μ σ H,ct:=fun σ' H'=>Pv σ' H'/\μ σ' H'<μ σ H,bk:=D.nx } σ H1 else D.nx σ H1)
  (mono:∀ σ H Q Q',(∀ b H1,Q b H1->Q' b H1)->c σ H Q->c σ H Q'):tWhile c tb D σ H:=by
 refine ⟨fun m σ H=>m=μ σ H/\Pv σ H,⟨_,rfl,h0⟩,?_⟩
 rintro m σ H ⟨rfl,p⟩
 refine mono σ H _ _ (fun b H1 q=>?_) (hs σ H p)
 cases b with
 | true=>exact ⟨_,fun σ' H' ⟨p',l⟩=>⟨_,l,rfl,p'⟩,q⟩
 | false=>exact q
open PySem PySem.Spec PyProof.Rows
abbrev R2:=V->V->Hp->VK->Prop
def OpR(X:Cx)(f:Value->Value->Sem Value)(r:R2):Prop :=
 ∀ (pins:List (Addr×Obj)) (s:Shared) (σ:St) (H:Hp) (x y:V) (v u:Value) (Q:VK),Inv X pins σ H s->RelV x v->RelV y u->r x y H Q ->
  wpAny (model X.prog X.w) X.A (f v u) (EP X pins σ Q) X.xe s
def UnR(X:Cx)(f:Value->Sem Value)(r:V->Hp->VK->Prop):Prop :=
 ∀ (pins:List (Addr×Obj)) (s:Shared) (σ:St) (H:Hp) (x:V) (v:Value) (Q:VK),Inv X pins σ H s->RelV x v->r x H Q ->
  wpAny (model X.prog X.w) X.A (f v) (EP X pins σ Q) X.xe s
def CallR(X:Cx)(f:Value)(r:List V->Hp->VK->Prop):Prop :=
 ∀ (pins:List (Addr×Obj)) (s:Shared) (σ:St) (H:Hp) (xs:List V) (us:List Value) (Q:VK),Inv X pins σ H s->Vals xs us->r xs H Q ->
  wpAny (model X.prog X.w) X.A (call f us) (EP X pins σ Q) X.xe s
def TruR(X:Cx)(r:V->Hp->(Bool->Hp->Prop)->Prop):Prop :=
 ∀ (pins:List (Addr×Obj)) (s:Shared) (σ:St) (H:Hp) (x:V) (v:Value) (Q:Bool->Hp->Prop),Inv X pins σ H s->RelV x v->r x H Q ->
  wpAny (model X.prog X.w) X.A (truthy v) (TP X pins σ Q) X.xe s
def tOp(r:R2)(ta tb:TE):TE:=fun σ H Q=>ta σ H fun x H1=>tb σ H1 fun y H2=>r x y H2 Q
def tUn(r:V->Hp->VK->Prop)(ta:TE):TE:=fun σ H Q=>ta σ H fun x H1=>r x H1 Q
def rI(C:Int->Int->Prop)(g:Int->Int->V):R2:=fun x y H Q=>∃ i j,x = .int i/\y = .int j/\C i j/\Q (g i j) H
def rI0(g:Int->Int->V):R2:=fun x y H Q=>∃ i j,x = .int i/\y = .int j/\Q (g i j) H
def rU(g:Int->V):V->Hp->VK->Prop:=fun x H Q=>∃ i,x = .int i/\Q (g i) H
section
variable {X:Cx} {a b c:Expr} {ta tb tc:TE} {pos:Pos}
theorem binT(ha:PE X a ta)(hb:PE X b tb){pins:List (Addr×Obj)}{s:Shared}{σ:St}{H:Hp}{R:V->V->Hp->Prop}(I:Inv X pins σ H s)
  (h:ta σ H fun x H1=>tb σ H1 fun y H2=>R x y H2) {Q:Value->Shared->Prop} {f:Value->Value->Sem Value}
  (hf:∀ v u s2 x y H2,Inv X pins σ H2 s2->RelV x v->RelV y u->R x y H2->wpAny (model X.prog X.w) X.A (f v u) Q X.xe s2) :
  wpAny (model X.prog X.w) X.A (eval a X.env) (fun v s₁=>wpAny (model X.prog X.w) X.A (eval b X.env) (fun u s₂=>wpAny (model X.prog X.w) X.A (f v u) Q X.xe s₂) X.xe s₁) X.xe s:=by
 refine thn (ha pins s σ H _ I h) fun v s1 ⟨x,H1,I1,r1,q1⟩=>?_
 refine thn (hb pins s1 σ H1 _ I1 q1) fun u s2 ⟨y,H2,I2,r2,q2⟩=>?_
 exact hf v u s2 x y H2 I2 r1 r2 q2
theorem z_t{op:Operator}{r:R2}(ho:OpR X (binaryOp op) r)(ha:PE X a ta)(hb:PE X b tb):PE X (.BinOp a op b pos) (tOp r ta tb):=by
 intro pins s σ H Q I h
 exact wpAny_BinOp (binT ha hb I h fun v u s2 x y H2 I2 rx ry q=>ho pins s2 σ H2 x y v u Q I2 rx ry q)
theorem pe_un{op:UnaryOp}{r:V->Hp->VK->Prop}(ho:UnR X (unaryOp op) r)(ha:PE X a ta):PE X (.UnaryOp op a pos) (tUn r ta):=by
 intro pins s σ H Q I h
 exact UnaryOp_ (thn (ha pins s σ H _ I h) fun v s1 ⟨x,H1,I1,r1,q1⟩=>ho pins s1 σ H1 x v Q I1 r1 q1)
theorem opI{f:Value->Value->Sem Value}{C:Int->Int->Prop}{g:Int->Int->Int}
  (rule:∀ (i j:Int) (t u:Tok) (s:Shared) (Q:Value->Shared->Prop) (E:Value->Shared->Prop),C i j->Q (.int (g i j) s.toks) { s with toks:=s.toks+1 }->wpAny (model X.prog X.w) X.A (f (.int i t) (.int j u)) Q E s) :
  OpR X f (rI C fun i j=>.int (g i j)):=by
 intro pins s σ H x y v u Q I rx ry h
 obtain ⟨i,j,rfl,rfl,hc,q⟩:=h
 obtain ⟨t,rfl⟩:=rx
 obtain ⟨t',rfl⟩:=ry
 exact rule i j t t' s _ _ hc ⟨.int (g i j),H,I.tok _,⟨_,rfl⟩,q⟩
theorem opI0{f:Value->Value->Sem Value}{g:Int->Int->Int}
  (rule:∀ (i j:Int) (t u:Tok) (s:Shared) (Q:Value->Shared->Prop) (E:Value->Shared->Prop),Q (.int (g i j) s.toks) { s with toks:=s.toks+1 }->wpAny (model X.prog X.w) X.A (f (.int i t) (.int j u)) Q E s) :
  OpR X f (rI0 fun i j=>.int (g i j)):=by
 intro pins s σ H x y v u Q I rx ry h
 obtain ⟨i,j,rfl,rfl,q⟩:=h
 obtain ⟨t,rfl⟩:=rx
 obtain ⟨t',rfl⟩:=ry
 exact rule i j t t' s _ _ ⟨.int (g i j),H,I.tok _,⟨_,rfl⟩,q⟩
theorem opB0{f:Value->Value->Sem Value}{g:Int->Int->Bool}
  (rule:∀ (i j:Int) (t u:Tok) (s:Shared) (Q:Value->Shared->Prop) (E:Value->Shared->Prop),Q (.bool (g i j)) s->wpAny (model X.prog X.w) X.A (f (.int i t) (.int j u)) Q E s) :
  OpR X f (rI0 fun i j=>.bl (g i j)):=by
 intro pins s σ H x y v u Q I rx ry h
 obtain ⟨i,j,rfl,rfl,q⟩:=h
 obtain ⟨t,rfl⟩:=rx
 obtain ⟨t',rfl⟩:=ry
 exact rule i j t t' s _ _ ⟨.bl (g i j),H,I,rfl,q⟩
def CPow(i j:Int):Prop:=0<=j/\j<=1000000/\i.natAbs<2^64
def CMul(i j:Int):Prop:=(-(2^64)<i/\i<2^64)\/(-(2^64)<j/\j<2^64)
theorem CMul.ok{i j:Int}(h:CMul i j):IntMulOk i j:=by
 rcases h with ⟨h1,h2⟩ | ⟨h1,h2⟩
 ·exact .of_left (intBits_le_64 h1 h2)
 ·exact .of_right (intBits_le_64 h1 h2)
theorem y_u:OpR X (binaryOp .Add) (rI0 fun i j=>.int (i+j)):=opI0 fun _ _ _ _ _ _ _ q=>add_int q
theorem op_sub:OpR X (binaryOp .Sub) (rI0 fun i j=>.int (i-j)):=opI0 fun _ _ _ _ _ _ _ q=>sub_int q
theorem op_mul:OpR X (binaryOp .Mult) (rI CMul fun i j=>.int (i*j)):=opI fun _ _ _ _ _ _ _ hc q=>mul_int q hc.ok
theorem op_mod:OpR X (binaryOp .Mod) (rI (fun _ j=>0<j) fun i j=>.int (i%j)):=opI fun i j _ _ _ _ _ hc q=>by
 have h1:(0:Int)<j:=hc
 exact mod_int' (by lia) (by rw [Int.fmod_eq_emod_of_nonneg i (by lia)];exact q)
theorem op_pow:OpR X (binaryOp .Pow) (rI CPow fun i j=>.int (i^j.toNat)):=opI fun _ _ _ _ _ _ _ hc q=>pow_int_small hc.1 hc.2.1 hc.2.2 q
theorem op_shl:OpR X (binaryOp .LShift) (rI CPow fun i j=>.int (i*2^j.toNat)):=opI fun _ _ _ _ _ _ _ hc q=>lshift_int_small hc.1 hc.2.1 hc.2.2 q
theorem op_and:OpR X (binaryOp .BitAnd) (rI0 fun i j=>.int (Builtin.bitAnd i j)):=opI0 fun _ _ _ _ _ _ _ q=>and_int q
theorem op_or:OpR X (binaryOp .BitOr) (rI0 fun i j=>.int (Builtin.bitOr i j)):=opI0 fun _ _ _ _ _ _ _ q=>or_int q
theorem op_xor:OpR X (binaryOp .BitXor) (rI0 fun i j=>.int (Builtin.bitXor i j)):=opI0 fun _ _ _ _ _ _ _ q=>xor_int q
theorem unI{f:Value->Sem Value}{g:Int->Int}
  (rule:∀ (i:Int) (t:Tok) (s:Shared) (Q:Value->Shared->Prop) (E:Value->Shared->Prop),Q (.int (g i) s.toks) { s with toks:=s.toks+1 }->wpAny (model X.prog X.w) X.A (f (.int i t)) Q E s) :
  UnR X f (rU fun i=>.int (g i)):=by
 intro pins s σ H x v Q I rx h
 obtain ⟨i,rfl,q⟩:=h
 obtain ⟨t,rfl⟩:=rx
 exact rule i t s _ _ ⟨.int (g i),H,I.tok _,⟨_,rfl⟩,q⟩
theorem un_neg:UnR X (unaryOp .USub) (rU fun i=>.int (-i)):=unI fun _ _ _ _ _ q=>neg_int q
end
def scal:V->V->Bool
 | .non,.non=>true | .non,.int _=>true | .int _,.non=>true | .non,.bl _=>true | .bl _,.non=>true | .non,.str _=>true | .str _,.non=>true
 | .int _,.int _=>true | .bl _,.bl _=>true | .str _,.str _=>true | .byt _,.byt _=>true
 | .int _,.str _=>true | .str _,.int _=>true | .bl _,.str _=>true | .str _,.bl _=>true
 | _,_=>false
def rEq:R2:=fun x y H Q=>scal x y=true/\Q (.bl (decide (x=y))) H
def rNe:R2:=fun x y H Q=>scal x y=true/\Q (.bl (!decide (x=y))) H
theorem dec_int{i j:Int}:decide (V.int i=V.int j)=(i == j):=by
 rw [Bool.eq_iff_iff]
 simp
theorem dec_bl{i j:Bool}:decide (V.bl i=V.bl j)=(i == j):=by
 rw [Bool.eq_iff_iff]
 simp
theorem dec_str{i j:Str}:decide (V.str i=V.str j)=(i == j):=by
 rw [Bool.eq_iff_iff]
 simp
theorem dec_byt{i j:Array UInt8}:decide (V.byt i=V.byt j)=(i.toList == j.toList):=by
 rw [Bool.eq_iff_iff]
 cases i
 cases j
 simp
section
variable {X:Cx} {a b c:Expr} {ta tb tc:TE} {pos:Pos}
theorem y_h{pins:List (Addr×Obj)}{σ:St}{H:Hp}{s:Shared}{Q:VK}{k k':Bool}(I:Inv X pins σ H s)(q:Q (.bl k) H)(e:k=k'):EP X pins σ Q (.bool k') s:=by
 subst e
 exact ⟨.bl k,H,I,rfl,q⟩
theorem x_e:OpR X (compareOp .Eq) rEq:=by
 intro pins s σ H x y v u Q I rx ry h
 obtain ⟨hs,q⟩:=h
 cases x with
 | non =>
  cases rx
  cases y with
  | non=>cases ry;exact PySem.EqNone.eq_none_none (y_h I q (by simp))
  | bl j=>cases ry;exact PySem.EqNone.eq_none_bool (y_h I q (by simp))
  | int j=>obtain ⟨t',rfl⟩:=ry;exact PySem.EqNone.eq_none_int (y_h I q (by simp))
  | str j=>obtain ⟨t',rfl⟩:=ry;exact PySem.EqNone.eq_none_str (y_h I q (by simp))
  | _=>exact absurd (show false=true from hs) Bool.false_ne_true
 | bl i =>
  cases rx
  cases y with
  | non=>cases ry;exact PySem.EqNone.eq_bool_none (y_h I q (by simp))
  | bl j=>cases ry;exact eq_bool (y_h I q dec_bl)
  | str j=>obtain ⟨t',rfl⟩:=ry;exact PySem.EqMixed.eq_bool_str (y_h I q (by simp))
  | _=>exact absurd (show false=true from hs) Bool.false_ne_true
 | int i =>
  obtain ⟨t,rfl⟩:=rx
  cases y with
  | non=>cases ry;exact PySem.EqNone.eq_int_none (y_h I q (by simp))
  | int j=>obtain ⟨t',rfl⟩:=ry;exact eq_int (y_h I q dec_int)
  | str j=>obtain ⟨t',rfl⟩:=ry;exact PySem.EqMixed.eq_int_str (y_h I q (by simp))
  | _=>exact absurd (show false=true from hs) Bool.false_ne_true
 | str i =>
  obtain ⟨t,rfl⟩:=rx
  cases y with
  | non=>cases ry;exact PySem.EqNone.eq_str_none (y_h I q (by simp))
  | bl j=>cases ry;exact PySem.EqMixed.eq_str_bool (y_h I q (by simp))
  | int j=>obtain ⟨t',rfl⟩:=ry;exact PySem.EqMixed.eq_str_int (y_h I q (by simp))
  | str j=>obtain ⟨t',rfl⟩:=ry;exact eq_str (y_h I q dec_str)
  | _=>exact absurd (show false=true from hs) Bool.false_ne_true
 | byt i =>
  obtain ⟨t,rfl⟩:=rx
  cases y with
  | byt j=>obtain ⟨t',rfl⟩:=ry;exact PySem.W.eq_bytes (y_h I q dec_byt)
  | _=>exact absurd (show false=true from hs) Bool.false_ne_true
 | _=>cases y<;>exact absurd (show false=true from hs) Bool.false_ne_true
theorem op_ne:OpR X (compareOp .NotEq) rNe:=by
 intro pins s σ H x y v u Q I rx ry h
 obtain ⟨hs,q⟩:=h
 cases x with
 | non =>
  cases rx
  cases y with
  | non=>cases ry;exact PySem.EqNone.ne_none_none (y_h I q (by simp))
  | bl j=>cases ry;exact PySem.EqNone.ne_none_bool (y_h I q (by simp))
  | int j=>obtain ⟨t',rfl⟩:=ry;exact PySem.EqNone.ne_none_int (y_h I q (by simp))
  | str j=>obtain ⟨t',rfl⟩:=ry;exact PySem.EqNone.ne_none_str (y_h I q (by simp))
  | _=>exact absurd (show false=true from hs) Bool.false_ne_true
 | bl i =>
  cases rx
  cases y with
  | non=>cases ry;exact PySem.EqNone.ne_bool_none (y_h I q (by simp))
  | bl j=>cases ry;exact ne_bool (y_h I q (congrArg not dec_bl))
  | str j=>obtain ⟨t',rfl⟩:=ry;exact PySem.EqMixed.ne_bool_str (y_h I q (by simp))
  | _=>exact absurd (show false=true from hs) Bool.false_ne_true
 | int i =>
  obtain ⟨t,rfl⟩:=rx
  cases y with
  | non=>cases ry;exact PySem.EqNone.ne_int_none (y_h I q (by simp))
  | int j=>obtain ⟨t',rfl⟩:=ry;exact ne_int (y_h I q (congrArg not dec_int))
  | str j=>obtain ⟨t',rfl⟩:=ry;exact PySem.EqMixed.ne_int_str (y_h I q (by simp))
  | _=>exact absurd (show false=true from hs) Bool.false_ne_true
 | str i =>
  obtain ⟨t,rfl⟩:=rx
  cases y with
  | non=>cases ry;exact PySem.EqNone.ne_str_none (y_h I q (by simp))
  | bl j=>cases ry;exact PySem.EqMixed.ne_str_bool (y_h I q (by simp))
  | int j=>obtain ⟨t',rfl⟩:=ry;exact PySem.EqMixed.ne_str_int (y_h I q (by simp))
  | str j=>obtain ⟨t',rfl⟩:=ry;exact ne_str (y_h I q (congrArg not dec_str))
  | _=>exact absurd (show false=true from hs) Bool.false_ne_true
 | byt i =>
  obtain ⟨t,rfl⟩:=rx
  cases y with
  | byt j=>obtain ⟨t',rfl⟩:=ry;exact PySem.W.ne_bytes (y_h I q (congrArg not dec_byt))
  | _=>exact absurd (show false=true from hs) Bool.false_ne_true
 | _=>cases y<;>exact absurd (show false=true from hs) Bool.false_ne_true
theorem op_lt:OpR X (compareOp .Lt) (rI0 fun i j=>.bl (decide (i<j))):=opB0 fun _ _ _ _ _ _ _ q=>lt_int q
theorem op_le:OpR X (compareOp .LtE) (rI0 fun i j=>.bl (decide (i<=j))):=opB0 fun _ _ _ _ _ _ _ q=>le_int q
theorem op_gt:OpR X (compareOp .Gt) (rI0 fun i j=>.bl (decide (j<i))):=opB0 fun _ _ _ _ _ _ _ q=>gt_int q
theorem nomark(b:Expr){op:CmpOp}(h:op ≠ .In:=by decide)(h2:op ≠ .NotIn:=by decide):behindInMarks op b=false:=by
 have e1:(op == CmpOp.In)=false:=by cases op<;>first | rfl | exact absurd rfl h
 have e2:(op == CmpOp.NotIn)=false:=by cases op<;>first | rfl | exact absurd rfl h2
 cases b<;>simp [behindInMarks,e1,e2]
theorem pe_cmpR{op:CmpOp}{r:R2}(ho:OpR X (compareOp op) r)(ha:PE X a ta)(hb:PE X b tb)(hm:behindInMarks op b=false):PE X (.Compare a [op] [b] pos) (tOp r ta tb):=by
 intro pins s σ H Q I h
 exact wpAny_Compare1 (binT ha hb I h fun v u s2 x y H2 I2 rx ry q=>ho pins s2 σ H2 x y v u Q I2 rx ry q) hm
def tTest(t:TE):TT:=fun σ H Q=>t σ H fun x H'=>∃ k,x = .bl k/\Q k H'
theorem z_q{op:CmpOp}{r:R2}(ho:OpR X (compareOp op) r)(ha:PE X a ta)(hb:PE X b tb)(hm:behindInMarks op b=false):PT X (.Compare a [op] [b] pos) (tTest (tOp r ta tb)):=by
 intro pins s σ H Q I h
 refine wpAny_isTrue_Compare1 (thn (ha pins s σ H _ I h) fun v s1 ⟨x,H1,I1,r1,q1⟩=>thn (hb pins s1 σ H1 _ I1 q1) fun u s2 ⟨y,H2,I2,r2,q2⟩ =>
  thn (ho pins s2 σ H2 x y v u _ I2 r1 r2 q2) fun c s3 ⟨z,H3,I3,r3,k,e,q3⟩=>?_) hm
 subst e
 cases r3
 exact wpAny_truthy_bool ⟨H3,I3,q3⟩
def TruV(K:PySem.W.Frag)(x:V)(H:Hp)(k:Bool):Prop :=
 match x with
 | .non=>k=false
 | .bl b=>k=b
 | .int i=>k=(i != 0)
 | .str y=>y.length<=sizeLine/\k=((y.length:Int) != 0)
 | .byt y=>y.size<=sizeLine/\k=((y.size:Int) != 0)
 | .ref p=>(∃ xs,SqL K H p xs/\k = !xs.isEmpty)\/(∃ xs,SqT K H p xs/\k = !xs.isEmpty)\/∃ kvs,H p=some (.dK kvs)/\k = !kvs.isEmpty
 | _=>False
theorem isEmpty_kv{κ:Type}{kvs:List (κ×V)}{vs:List (κ×Value)}(r:KV kvs vs):(!vs.isEmpty) = !kvs.isEmpty:=by
 cases r<;>rfl
theorem isEmpty_of{xs:List V}{its:List Value}(r:Vals xs its):(!its.toArray.isEmpty) = !xs.isEmpty:=by
 cases r<;>simp
theorem line63:(sizeLine:Nat)<2^63:=by rw [sizeLine_eq];decide
theorem tru_ok:TruR X (fun x H Q=>∃ k,TruV X.K x H k/\Q k H):=by
 intro pins s σ H x v Q I rx h
 obtain ⟨k,e,q⟩:=h
 have hl:=line63
 have hs:sizeLine=16777216:=sizeLine_eq
 cases x with
 | non =>
  cases rx
  have e':k=false:=e
  subst e'
  exact truthy_none ⟨H,I,q⟩
 | bl b =>
  cases rx
  have e':k=b:=e
  subst e'
  exact wpAny_truthy_bool ⟨H,I,q⟩
 | int i =>
  obtain ⟨t,rfl⟩:=rx
  have e':k=(i != 0):=e
  subst e'
  exact PySem.P.truthy_int ⟨H,I,q⟩
 | str y =>
  obtain ⟨t,rfl⟩:=rx
  obtain ⟨hy,e'⟩:y.length<=sizeLine/\k=((y.length:Int) != 0):=e
  subst e'
  exact PySem.P.truthy_str (by lia) ⟨H,I.tok _,q⟩
 | byt y =>
  obtain ⟨t,rfl⟩:=rx
  obtain ⟨hy,e'⟩:y.size<=sizeLine/\k=((y.size:Int) != 0):=e
  subst e'
  exact PySem.W.truthy_bytes (by lia) ⟨H,I.tok _,q⟩
 | ref p =>
  cases rx
  have e':(∃ xs,SqL X.K H p xs/\k = !xs.isEmpty)\/(∃ xs,SqT X.K H p xs/\k = !xs.isEmpty)\/∃ kvs,H p=some (.dK kvs)/\k = !kvs.isEmpty:=e
  rcases e' with ⟨xs,hx,e'⟩ | ⟨xs,hx,e'⟩ | ⟨kvs,hx,e'⟩
  ·subst e'
   obtain ⟨its,r,pl,hz⟩:=I.list hx
   have hlen:=r.length
   exact wpAny_truthy_list pl.isList (by simp only [List.size_toArray];lia) ⟨H,I.tok _,by rw [isEmpty_of r];exact q⟩
  ·subst e'
   obtain ⟨its,r,pl,hz⟩:=I.tuple hx
   have hlen:=r.length
   exact truthy_tuple pl (by simp only [List.size_toArray];lia) ⟨H,I.tok _,by rw [isEmpty_of r];exact q⟩
  ·subst e'
   obtain ⟨hz,hS,vs,r,m⟩:kvs.length<=sizeLine/\(p == sysModules)=false/\∃ vs,KV kvs vs/\s.heap.DictOf (mixKind X.prog X.w) p vs:=I.hok p _ hx
   have hlen:kvs.length=vs.length:=Paired.length r
   exact wpAny_truthy_dict hS m (by lia) ⟨H,I.tok _,by rw [isEmpty_kv r];exact q⟩
 | _=>exact (show False from e).elim
theorem pt_truth(ha:PE X a ta)(he:∀ whole,isTrue a X.env whole=(do let v <-whole;standAt a.pos;holding [v] (truthy v))) :
  PT X a (fun σ H Q=>ta σ H fun x H'=>∃ k,TruV X.K x H' k/\Q k H'):=by
 intro pins s σ H Q I h
 exact isTrue_plain (thn (ha pins s σ H _ I h) fun v s1 ⟨x,H1,I1,r1,q1⟩=>tru_ok pins s1 σ H1 x v Q I1 r1 q1) (he _)
theorem op_add_str:OpR X (binaryOp .Add) (fun x y H Q=>∃ i j,x = .str i/\y = .str j/\i.length+j.length<=sizeLine/\Q (.str (i++j)) H):=by
 intro pins s σ H x y v u Q I rx ry h
 obtain ⟨i,j,rfl,rfl,hz,q⟩:=h
 obtain ⟨t,rfl⟩:=rx
 obtain ⟨t',rfl⟩:=ry
 exact add_str (fun t' tk=>⟨.str (i++j),H,I.tok _,⟨_,rfl⟩,q⟩) hz
theorem vals1{x:V}{us:List Value}(r:Vals [x] us):∃ u,us=[u]/\RelV x u:=by
 cases r with
 | cons r1 r2=>cases r2;exact ⟨_,rfl,r1⟩
theorem vals2{x y:V}{us:List Value}(r:Vals [x,y] us):∃ u w',us=[u,w']/\RelV x u/\RelV y w':=by
 cases r with
 | cons r1 r2 =>
  cases r2 with
  | cons r3 r4=>cases r4;exact ⟨_,_,rfl,r1,r3⟩
theorem call_abs:CallR X (.builtin "abs") (fun xs H Q=>∃ i,xs=[.int i]/\Q (.int (if i<0 then -i else i)) H):=by
 intro pins s σ H xs us Q I r h
 obtain ⟨i,rfl,q⟩:=h
 obtain ⟨u,rfl,t,rfl⟩:=vals1 r
 exact call_abs_int fun u tk=>⟨.int (if i<0 then -i else i),H,I.tok _,⟨_,rfl⟩,q⟩
theorem call_max2(hc:X.calm=true):CallR X (.builtin "max") (fun xs H Q=>∃ i j,xs=[.int i,.int j]/\Q (.int (if j > i then j else i)) H):=by
 intro pins s σ H xs us Q I r h
 obtain ⟨i,j,rfl,q⟩:=h
 obtain ⟨u,w',rfl,⟨t,rfl⟩,⟨t',rfl⟩⟩:=vals2 r
 refine max_two_ints (I.ok.hd hc) fun h' tk k=>⟨_,H,I.kept k,?_,q⟩
 by_cases hj:j > i
 ·rw [if_pos hj,if_pos hj];exact ⟨_,rfl⟩
 ·rw [if_neg hj,if_neg hj];exact ⟨_,rfl⟩
theorem call_min2(hc:X.calm=true):CallR X (.builtin "min") (fun xs H Q=>∃ i j,xs=[.int i,.int j]/\Q (.int (if j<i then j else i)) H):=by
 intro pins s σ H xs us Q I r h
 obtain ⟨i,j,rfl,q⟩:=h
 obtain ⟨u,w',rfl,⟨t,rfl⟩,⟨t',rfl⟩⟩:=vals2 r
 refine min_two_ints (I.ok.hd hc) fun h' tk k=>⟨_,H,I.kept k,?_,q⟩
 by_cases hj:j<i
 ·rw [if_pos hj,if_pos hj];exact ⟨_,rfl⟩
 ·rw [if_neg hj,if_neg hj];exact ⟨_,rfl⟩
theorem call_int1:CallR X (.type "int") (fun xs H Q=>(∃ i,xs=[.int i]/\Q (.int i) H)\/∃ k,xs=[.bl k]/\Q (.int (if k then 1 else 0)) H):=by
 intro pins s σ H xs us Q I r h
 rcases h with ⟨i,rfl,q⟩ | ⟨k,rfl,q⟩
 ·obtain ⟨u,rfl,t,rfl⟩:=vals1 r
  exact call_int_int ⟨.int i,H,I,⟨_,rfl⟩,q⟩
 ·obtain ⟨u,rfl,r1⟩:=vals1 r
  cases r1
  exact call_int_bool ⟨.int (if k then 1 else 0),H,I.tok _,⟨_,rfl⟩,q⟩
def LenV(K:PySem.W.Frag)(x:V)(H:Hp)(n:Nat):Prop :=
 match x with
 | .str y=>y.length<=sizeLine/\n=y.length
 | .byt y=>y.size<=sizeLine/\n=y.size
 | .ref p=>(∃ xs,SqL K H p xs/\n=xs.length)\/∃ xs,SqT K H p xs/\n=xs.length
 | _=>False
theorem y_y:CallR X (.builtin "len") (fun xs H Q=>∃ x n,xs=[x]/\LenV X.K x H n/\Q (.int n) H):=by
 intro pins s σ H xs us Q I r h
 obtain ⟨x,n,rfl,e,q⟩:=h
 obtain ⟨u,rfl,rx⟩:=vals1 r
 have hl:=line63
 have hs:sizeLine=16777216:=sizeLine_eq
 cases x with
 | str y =>
  obtain ⟨t,rfl⟩:=rx
  obtain ⟨hy,e'⟩:y.length<=sizeLine/\n=y.length:=e
  subst e'
  exact len_str (by lia) ⟨.int _,H,I.tok _,⟨_,rfl⟩,q⟩
 | byt y =>
  obtain ⟨t,rfl⟩:=rx
  obtain ⟨hy,e'⟩:y.size<=sizeLine/\n=y.size:=e
  subst e'
  exact PySem.W.len_bytes (by lia) ⟨.int _,H,I.tok _,⟨_,rfl⟩,q⟩
 | ref p =>
  cases rx
  have e':(∃ xs,SqL X.K H p xs/\n=xs.length)\/∃ xs,SqT X.K H p xs/\n=xs.length:=e
  rcases e' with ⟨xs,hx,e'⟩ | ⟨xs,hx,e'⟩
  ·subst e'
   obtain ⟨its,r',pl,hz⟩:=I.list hx
   have hlen:=r'.length
   exact Calls.call_len_list pl.isList (by simp only [List.size_toArray];lia) ⟨.int xs.length,H,I.tok _,⟨_,by simp only [List.size_toArray];rw [hlen]⟩,q⟩
  ·subst e'
   obtain ⟨its,r',pl,hz⟩:=I.tuple hx
   have hlen:=r'.length
   exact len_tuple pl (by simp only [List.size_toArray];lia) ⟨.int xs.length,H,I.tok _,⟨_,by simp only [List.size_toArray];rw [hlen]⟩,q⟩
 | _=>exact (show False from e).elim
end
open PySem PySem.Spec PyProof.Rows
structure ObjM(h:Heap)(x dx C:Addr)(mA:Str->Option Value):Prop where
 obj:h.get? x=some (PySem.W.instObj C dx)
 ns:h.Ns1 dx mA
 ne:dx≠x
theorem lookIn_ns{h:Heap}{dx:Addr}{mA:Str->Option Value}(n:h.Ns1 dx mA):∃ od,h.get? dx=some od/\∀ name,PySem.W.lookIn name od=some (mA name):=by
 obtain ⟨o,es,ep,ho,hd,hk,_,hm⟩:=n
 refine ⟨o,ho,fun name=>?_⟩
 have e:=hm name
 unfold nsFind findBy at e
 rw [<-Array.find?_toList] at e
 unfold PySem.W.lookIn
 rw [hd]
 dsimp only
 split
 ·rename_i y q
  rw [q] at e
  exact congrArg some e
 ·rename_i q
  rw [q] at e
  have a:es.toList.any (·.refKey)=false:=by
   rw [List.any_eq_false]
   intro y hy
   obtain ⟨z,t,hkey⟩:=hk y (Array.mem_toList_iff.mp hy)
   simp [DictEntry.refKey,hkey]
  have a':¬es.toList.any (·.refKey)=true:=by rw [a];exact Bool.false_ne_true
  rw [if_neg a']
  exact congrArg some e
theorem ObjM.look{h:Heap}{x dx C:Addr}{mA:Str->Option Value}(I:ObjM h x dx C mA):∃ od,PySem.W.InstAt h x (PySem.W.instObj C dx) C (some od)/\∀ name,PySem.W.lookIn name od=some (mA name) :=
 let ⟨od,ho,hl⟩:=lookIn_ns I.ns
 ⟨od,⟨I.obj,rfl,rfl,ho⟩,hl⟩
theorem RelO.some_of{v:V}{o:Option Value}(r:RelO (some v) o):∃ u,o=some u/\RelV v u:=by
 cases o with
 | none=>exact (show False from r).elim
 | some u=>exact ⟨u,rfl,r⟩
section
variable {P:Program} {w:World} {H H':Hp} {h h':Heap} {a C dx:Addr} {fs fs':List (Str×V)}
theorem ins_get(hok:HOk P w H h)(e:H a=some (.ins C dx fs)):∃ mA,ObjM h a dx C mA/\(∀ f,RelO (fs.lookup f) (mA f))/\PySem.Within mA (fs.map (·.1))/\fs.length<=1000/\H dx=some (.own a):=by
 obtain ⟨d,z,ne,ob,mA,n,r,q⟩:=(show ObjOk P w H h a (.ins C dx fs) from hok a _ e)
 exact ⟨mA,⟨ob,n,ne⟩,r,q,z,d⟩
end
structure Cls(K:PySem.W.Frag)(C:Addr):Prop where
 pg:PySem.W.plainGet K C Str.empty=true
 hd:PySem.W.hasDictIn K C=true
 po:PySem.W.plainOver K C=true
 sa:PySem.W.findIn K (.ref C) "__setattr__" = some (some (.builtin "object.__setattr__"))
theorem Cls.get{K:PySem.W.Frag}{C:Addr}(c:Cls K C)(f:Str):PySem.W.plainGet K C f=true:=c.pg
section
variable {X:Cx} {pins:List (Addr×Obj)} {σ:St} {H:Hp} {s:Shared} {A:Around} {E:Value->Shared->Prop} {Q:Value->Shared->Prop} {c:Value} {b:Bool}
inductive TyOf (K:PySem.W.Frag) (H:Hp):V->Value->Prop where
 | non:TyOf K H .non (.type "NoneType")
 | bl (x:Bool):TyOf K H (.bl x) (.type "bool")
 | int (i:Int):TyOf K H (.int i) (.type "int")
 | str (x:Str):TyOf K H (.str x) (.type "str")
 | flt (x:UInt64):TyOf K H (.flt x) (.type "float")
 | lst {a:Addr} {xs:List V} (e:H a=some (.lst xs)):TyOf K H (.ref a) (.type "list")
 | frz {a:Addr} {o:Obj} {xs:List V} (e:H a=some (.frz o (.lst xs))):TyOf K H (.ref a) (.type "list")
 | tup {a:Addr} {xs:List V} (e:H a=some (.tup xs)):TyOf K H (.ref a) (.type "tuple")
 | dK {a:Addr} {kvs:List (Key×V)} (e:H a=some (.dK kvs)):TyOf K H (.ref a) (.type "dict")
 | dT {a:Addr} {kvs:List (List Key×V)} (e:H a=some (.dT kvs)):TyOf K H (.ref a) (.type "dict")
 | ins {a C dx:Addr} {fs:List (Str×V)} (e:H a=some (.ins C dx fs)) (cl:Cls K C) (ha:PySem.W.findIn K (.ref C) "__class__" = some (some (.builtin "object.__class__")))
   (hn:PySem.W.specialIn K (.builtin "object.__class__") "__get__" = some (some (.builtin "getset_descriptor.__get__"))) (htk:PySem.W.takesIn K (.builtin "object.__class__")=some true)
   (hm:PySem.W.mroIn K C (.type "object")=some true):TyOf K H (.ref a) (.ref C)
theorem isinst_ok{x:V}{u t:Value}(I:Inv X pins σ H s)(rx:RelV x u)(ty:TyOf X.K H x t)(e:PySem.W.kitOne X.K t c=some b)(h:∀ tk,Q (.bool b) { s with toks:=tk }) :
  wpAny (model X.prog X.w) A (call (.builtin "isinstance") [u,c]) Q E s:=by
 cases ty with
 | non=>cases (show u=Value.none from rx);exact PySem.W.kia_one PySem.W.kitx_none I.kIn True.intro e (fun z=>nomatch z) h
 | bl y=>cases (show u=Value.bool y from rx);exact PySem.W.kia_one PySem.W.kitx_bool I.kIn True.intro e (fun z=>nomatch z) h
 | int i=>obtain ⟨t,q⟩:=(show ∃ t,u=Value.int i t from rx);cases q;exact PySem.W.kia_one PySem.W.kitx_int I.kIn True.intro e (fun z=>nomatch z) h
 | str y=>obtain ⟨t,q⟩:=(show ∃ t,u=Value.str y t from rx);cases q;exact PySem.W.kia_one PySem.W.kitx_str I.kIn True.intro e (fun z=>nomatch z) h
 | flt y=>obtain ⟨t,q⟩:=(show ∃ t,u=Value.float y t from rx);cases q;exact PySem.W.kia_one PySem.W.kitx_float I.kIn True.intro e (fun z=>nomatch z) h
 | @lst a xs ea =>
  cases (show u=Value.ref a from rx)
  obtain ⟨_,_,n,_,h1⟩:=(show ObjOk X.prog X.w H s.heap a (.lst xs) from I.hok a _ ea)
  exact PySem.W.kia_one PySem.W.kitx_list I.kIn ⟨_,h1,rfl⟩ e (fun z=>nomatch z) h
 | @frz a ob xs ea =>
  cases (show u=Value.ref a from rx)
  obtain ⟨_,_,_,n,_,h1⟩:=(show ObjOk X.prog X.w H s.heap a (.frz ob (.lst xs)) from I.hok a _ ea)
  exact PySem.W.kia_one PySem.W.kitx_list I.kIn ⟨_,h1,rfl⟩ e (fun z=>nomatch z) h
 | @tup a xs ea =>
  cases (show u=Value.ref a from rx)
  obtain ⟨_,_,_,p⟩:=(show ObjOk X.prog X.w H s.heap a (.tup xs) from I.hok a _ ea)
  obtain ⟨o,h1,h2,_⟩:=p
  exact PySem.W.kia_one PySem.W.kitx_tuple I.kIn ⟨o,h1,h2⟩ e (fun z=>nomatch z) h
 | @dK a kvs ea =>
  cases (show u=Value.ref a from rx)
  obtain ⟨_,_,vs,_,p⟩:=(show ObjOk X.prog X.w H s.heap a (.dK kvs) from I.hok a _ ea)
  obtain ⟨o,es,ep,h1,h2,_⟩:=p
  exact PySem.W.kia_one PySem.W.kitx_dict I.kIn ⟨o,h1,h2.1⟩ e (fun z=>nomatch z) h
 | @dT a kvs ea =>
  cases (show u=Value.ref a from rx)
  obtain ⟨_,_,xs,_,o,es,ep,h1,h2,_⟩:=(show ObjOk X.prog X.w H s.heap a (.dT kvs) from I.hok a _ ea)
  exact PySem.W.kia_one PySem.W.kitx_dict I.kIn ⟨o,h1,h2.1⟩ e (fun z=>nomatch z) h
 | @ins a C dx fs ea cl ha hn htk hm =>
  cases (show u=Value.ref a from rx)
  obtain ⟨mA,O,_⟩:=ins_get I.hok ea
  obtain ⟨od,J,_⟩:=O.look
  exact PySem.W.kia_one (PySem.W.kitx_own (cl.get _) cl.hd ha hn htk hm) I.kIn J e (fun z=>nomatch z) h
end
open PySem PySem.Spec PyProof.Rows
structure Room(k:Nat)(A:Around):Prop where
 hd:A.handled=none
 dp:A.depth+3*k+5<recursionLimit
 un:A.units+16*k+200<cLine
theorem Room.mono{j k:Nat}{A:Around}(r:Room k A)(h:j<=k):Room j A:=⟨r.hd,by have:=r.dp;lia,by have:=r.un;lia⟩
theorem Room.deeper{k:Nat}{A:Around}(r:Room (k+1) A)(env:Env):Room k (A.deeper env) :=
 ⟨r.hd,by have:=r.dp;show A.depth+1+3*k+5<_;lia,by have:=r.un;show A.units+3+16*k+200<_;lia⟩
theorem Room.depth{k:Nat}{A:Around}(r:Room k A):A.depth<recursionLimit:=by have:=r.dp;lia
theorem Room.units{k:Nat}{A:Around}(r:Room k A):A.units+64<cLine:=by have:=r.un;lia
def tNil:TA:=fun _ H Q=>Q [] H
def tCons(ta:TE)(tr:TA):TA:=fun σ H Q=>ta σ H fun x H1=>tr σ H1 fun xs H2=>Q (x::xs) H2
section
variable {X:Cx} {e:Expr} {es:List Expr} {te:TE} {t:TA} {pos:Pos}
theorem z_e:PA X [] tNil:=fun _ _ _ _ H Q I h=>Calls.spliced_nil ⟨[],H,I,.nil,h⟩
theorem z_a(ha:PE X e te)(hr:PA X es t)(hs:starEach (e::es) X.env=(false,eval e X.env)::starEach es X.env:=by rfl):PA X (e::es) (tCons te t):=by
 intro pos pins s σ H Q I h
 rw [hs]
 show wpAny _ _ (spliced ((false,eval e X.env)::backTo pos (starEach es X.env))) _ _ s
 refine Calls.spliced_cons (thn (ha pins s σ H _ I h) fun u s1 ⟨x,H1,I1,r1,q1⟩=>?_)
 exact thn (hr pos pins s1 σ H1 _ I1 q1) fun us s2 ⟨xs,H2,I2,r2,q2⟩=>⟨x::xs,H2,I2,.cons r1 r2,q2⟩
def tTup(t:TA):TE:=fun σ H Q=>t σ H fun xs H1=>xs.length<=sizeLine/\∀ p,H1 p=none->Q (.ref p) (upd H1 p (.tup xs))
def tLst(t:TA):TE:=fun σ H Q=>t σ H fun xs H1=>xs.length<=sizeLine/\∀ p,H1 p=none->Q (.ref p) (upd H1 p (.lst xs))
theorem y_v{x1}(h:PA X es t):PE X (.Tuple es x1 pos) (tTup t):=by
 intro pins s σ H Q I hq
 refine wpAny_Tuple_spliced (thn (h pos pins s σ H _ I hq) fun us s1 ⟨xs,H1,I1,r,z,q⟩=>⟨by rw [<-r.length];exact z,?_⟩)
 have hf:H1 s1.heap.objs.size=none:=I1.hok.fresh (Nat.le_refl _)
 refine ⟨.ref s1.heap.objs.size,upd H1 s1.heap.objs.size (.tup xs),I1.laid (t':=s1.toks) (fun b u e=>Heap.get?_push_of_some _ e) (Nat.le_refl _) ?_,rfl,q _ hf⟩
 exact ⟨z,us,r,⟨_,Heap.get?_push_size _ rfl,rfl,_,rfl⟩⟩
theorem pe_lst(h:PA X es t):PE X (.List es pos) (tLst t):=by
 intro pins s σ H Q I hq
 refine wpAny_List_spliced (thn (h pos pins s σ H _ I hq) fun us s1 ⟨xs,H1,I1,r,z,q⟩=>⟨by rw [<-r.length];exact z,?_⟩)
 have hf:H1 s1.heap.objs.size=none:=I1.hok.fresh (Nat.le_refl _)
 refine ⟨.ref s1.heap.objs.size,upd H1 s1.heap.objs.size (.lst xs),I1.laid (t':=s1.toks) (fun b u e=>Heap.get?_push_of_some _ e) (Nat.le_refl _) ?_,rfl,q _ hf⟩
 exact ⟨z,us,0,r,Heap.get?_push_size _ rfl⟩
end
abbrev Sp:=List V->Hp->VK->XK->Prop
abbrev CXT:=List Env->Hp->Shared->XK->Value->Shared->Prop
structure Env0(P:Program)(w:World)(K:PySem.W.Frag)(mg:Str->Option Value)(base:Heap)(A:Around)(outer:List Env)(s:Shared)(H:Hp):Prop where
 frames:A.frames=some outer
 gd:A.guards=some []
 mod:Mod K mg base
 bs:∀ b o,base.get? b=some o->s.heap.get? b=some o/\H b=none
 bsz:base.objs.size<=s.heap.objs.size
 funs:s.heap.FunFrames base outer
 frf:∀ b∈frs outer,H b=none
 hok:HOk P w H s.heap
 bare:AllBare s.gens
def CE(outer:List Env)(P:Program)(w:World)(H:Hp)(s:Shared)(Q:VK)(u:Value)(s':Shared):Prop :=
 ∃ v H',s'.os=s.os/\AllBare s'.gens/\Un (frs outer) [] H H' s.heap s'.heap/\HOk P w H' s'.heap/\RelV v u/\Q v H'
def CR(CX:CXT)(outer:List Env)(P:Program)(w:World)(H:Hp)(s:Shared)(Q:VK)(E:XK)(r:Result)(s':Shared):Prop :=
 match r with
 | .ok (.ret u)=>CE outer P w H s Q u s'
 | .ok _=>False
 | .error e=>CX outer H s E e s'
structure FnOk(P:Program)(w:World)(K:PySem.W.Frag)(mg:Str->Option Value)(base:Heap)(CX:CXT)(k:Nat)(f:Addr)(fd:FuncData)(ps:List Str)(sp:Sp):Prop where
 len:∀ vs H Q E,sp vs H Q E->vs.length=ps.length
 run:∀ (A:Around) (outer:List Env) (s:Shared) (H:Hp) (args:Args) (us:List Value) (vs:List V) (Q:VK) (E:XK),Room k A->Env0 P w K mg base A outer s H->BindsTo s fd args (ps.zip us)->Vals vs us->sp vs H Q E ->
  codeAny (model P w) A (.call (.ref f) args) (CR CX outer P w H s Q E) s
theorem FnOk.mono{P:Program}{w:World}{K:PySem.W.Frag}{mg:Str->Option Value}{base:Heap}{CX:CXT}{j k:Nat}{f:Addr}{fd:FuncData}{ps:List Str}{sp:Sp}(F:FnOk P w K mg base CX j f fd ps sp)(h:j<=k) :
  FnOk P w K mg base CX k f fd ps sp:=⟨F.len,fun A outer s H args us vs Q E hr=>F.run A outer s H args us vs Q E (hr.mono h)⟩
section
variable {X:Cx} {pins:List (Addr×Obj)} {σ:St} {H:Hp} {s s':Shared}
theorem Inv.env0(I:Inv X pins σ H s):Env0 X.prog X.w X.K X.mg X.base X.A X.stack s H :=
 ⟨I.ok.frames,I.ok.gd,I.ok.mod,I.bs,Nat.le_trans I.ok.bsz I.sz,I.stack,I.stkFree,I.hok,I.bare⟩
theorem Inv.after{Q:VK}{u:Value}(I:Inv X pins σ H s)(h:CE X.stack X.prog X.w H s Q u s'):EP X pins σ Q u s':=by
 obtain ⟨v,H',os,bare,un,hok,r,q⟩:=h
 obtain ⟨hh,g,d,t,os'⟩:=s'
 obtain rfl:os'=s.os:=os
 exact ⟨v,H',I.call (h':=hh) (g':=g) (d':=d) (t':=t) (ch:=[]) un hok bare (fun b z=>absurd z (by simp)),r,q⟩
end
def tCall(sp:Sp)(dvs:List V)(E:XK)(t:TA):TE:=fun σ H Q=>t σ H fun vs H1=>sp (vs++dvs) H1 Q E
def Binds(K:PySem.W.Frag)(fd:FuncData)(ps:List Str)(ds:List Value):Prop :=
 ∀ (s:Shared) (us:List Value),K.In s.heap->(us++ds).length=ps.length->BindsTo s fd ⟨us,[]⟩ (ps.zip (us++ds))
theorem Binds.all{K:PySem.W.Frag}{fd:FuncData}{ps:List Str}(h:∀ us:List Value,us.length=ps.length->bindArgs fd ⟨us,[]⟩=pure (ps.zip us)):Binds K fd ps []:=fun s us _ hl=>by
 rw [List.append_nil] at hl ⊢
 exact .of_eq (h us hl)
def Passes(CX:CXT)(X:Cx)(E:XK):Prop:=∀ (pins:List (Addr×Obj)) (σ:St) (H:Hp) (s:Shared) (e:Value) (s':Shared),Inv X pins σ H s->CX X.stack H s E e s'->X.xe e s'
section
variable {X:Cx} {CX:CXT} {k:Nat} {f C:Addr} {fd:FuncData} {ps:List Str} {sp:Sp} {dvs:List V} {ds:List Value} {E:XK} {x m:Str} {p pos apos:Pos} {e o:Expr} {es:List Expr} {ta:TE} {t:TA}
theorem run_fn{pins:List (Addr×Obj)}{σ:St}{H:Hp}{s:Shared}{Q:VK}{us:List Value}{vs:List V}(F:FnOk X.prog X.w X.K X.mg X.base CX k f fd ps sp)(hr:Room k X.A)(hb:Binds X.K fd ps ds)(hd:Vals dvs ds)(hx:Passes CX X E)
  (I:Inv X pins σ H s) (r:Vals vs us) (h:sp (vs++dvs) H Q E):wpAny (model X.prog X.w) X.A (call (.ref f) us) (EP X pins σ Q) X.xe s:=by
 have r2:Vals (vs++dvs) (us++ds):=r.append hd
 have hl:(us++ds).length=ps.length:=by rw [<-r2.length];exact F.len _ _ _ _ h
 refine wpAny_call (codeAny_mono (F.run X.A X.stack s H ⟨us,[]⟩ (us++ds) (vs++dvs) Q E hr I.env0 (hb s us I.kIn hl) r2 h) fun r s' hq=>?_)
 cases r with
 | error e=>exact hx pins σ H s e s' I hq
 | ok fl =>
  cases fl with
  | ret u=>exact I.after hq
  | next=>exact False.elim hq
  | brk=>exact False.elim hq
  | cont=>exact False.elim hq
theorem z_l(F:FnOk X.prog X.w X.K X.mg X.base CX k f fd ps sp)(hr:Room k X.A)(hg:Gl X x)(hm:X.mg x=some (.ref f))(hk:PySem.W.keepIn X.K (.ref f)=true)(hb:Binds X.K fd ps ds)(hd:Vals dvs ds)(hx:Passes CX X E)
  (ha:PA X (e::es) t) (hdb:(x == ("__debug__" : Str))=false:=by decide) (he:starEach (e::es) X.env=(false,eval e X.env)::starEach es X.env:=by rfl) (hpl:(backTo pos (starEach es X.env)).any (·.1)=false:=by rfl) :
  PE X (.Call (.Name x p) (e::es) [] pos) (tCall sp dvs E t):=by
 intro pins s σ H Q I h
 refine wpAny_Call_Name_kw (ld_glob I hg hm ?_ hdb)
 refine PySem.W.callWith_K (h₀:=X.base) I.ok.mod.kin hk (thn (ha pos pins s σ H _ I h) fun us s1 ⟨vs,H1,I1,r,q⟩=>⟨I1.kIn,?_⟩) he hpl
 exact run_fn F hr hb hd hx I1 r q
end
structure FnScope(N P:List Str)(sc:Scope):Prop where
 kind:sc.kind = .function
 co:sc.isCoroutine=false
 gen:sc.isGenerator=false
 nd:N.Nodup
 pre:N.take P.length=P
 par:∀ x∈P,sc.names.lookup x=some .local\/sc.names.lookup x=some .cell
 nofree:∀ y∈sc.names,y.2 ≠ .free
theorem bindL_out{kindOf:Str->Option NameKind}{x:Str}:∀ {binds:List (Str×Value)} {m:Str->Option Value},(∀ v,(x,v)∉binds)->bindL kindOf binds m x=m x
 | [],_,_=>rfl
 | (n,v)::r,m,h=>by
  unfold bindL
  rw [bindL_out fun w hw=>h w (List.mem_cons_of_mem _ hw)]
  split
  ·have:x≠n:=by rintro rfl;exact h v List.mem_cons_self
   simp [this]
  ·rfl
theorem bindC_out{kindOf:Str->Option NameKind}{x:Str}:∀ {binds:List (Str×Value)} {m:Str->Option Value},(∀ v,(x,v)∉binds)->bindC kindOf binds m x=m x
 | [],_,_=>rfl
 | (n,v)::r,m,h=>by
  unfold bindC
  rw [bindC_out fun w hw=>h w (List.mem_cons_of_mem _ hw)]
  split
  ·rfl
  ·have:x≠n:=by rintro rfl;exact h v List.mem_cons_self
   simp [this]
theorem bindL_get{kindOf:Str->Option NameKind}{x:Str}{v:Value}:∀ {P:List Str} {vs:List Value} {i:Nat} {m:Str->Option Value},P.Nodup->P[i]? = some x->vs[i]? = some v->kindOf x=some .local ->
  bindL kindOf (P.zip vs) m x=some v
 | [],_,_,_,_,h,_,_=>by simp at h
 | _::_,[],_,_,_,_,h,_=>by simp at h
 | p::P,w::vs,0,m,nd,h1,h2,hk=>by
  simp at h1 h2;subst h1;subst h2
  show bindL kindOf ((p,w)::P.zip vs) m p=_
  unfold bindL
  rw [bindL_out fun v hv=>(List.nodup_cons.mp nd).1 (List.of_mem_zip hv).1,if_pos hk]
  simp
 | p::P,w::vs,i+1,m,nd,h1,h2,hk=>by
  show bindL kindOf ((p,w)::P.zip vs) m x=_
  unfold bindL
  exact bindL_get (i:=i) (List.nodup_cons.mp nd).2 (by simpa using h1) (by simpa using h2) hk
theorem bindC_get{kindOf:Str->Option NameKind}{x:Str}{v:Value}:∀ {P:List Str} {vs:List Value} {i:Nat} {m:Str->Option Value},P.Nodup->P[i]? = some x->vs[i]? = some v->kindOf x≠some .local ->
  bindC kindOf (P.zip vs) m x=some v
 | [],_,_,_,_,h,_,_=>by simp at h
 | _::_,[],_,_,_,_,h,_=>by simp at h
 | p::P,w::vs,0,m,nd,h1,h2,hk=>by
  simp at h1 h2;subst h1;subst h2
  show bindC kindOf ((p,w)::P.zip vs) m p=_
  unfold bindC
  rw [bindC_out fun v hv=>(List.nodup_cons.mp nd).1 (List.of_mem_zip hv).1,if_neg hk]
  simp
 | p::P,w::vs,i+1,m,nd,h1,h2,hk=>by
  show bindC kindOf ((p,w)::P.zip vs) m x=_
  unfold bindC
  exact bindC_get (i:=i) (List.nodup_cons.mp nd).2 (by simpa using h1) (by simpa using h2) hk
def start(N:List Str)(vs:List V):St:=vs.map some++List.replicate (N.length-vs.length) none
def cxOf(CX:CXT)(P:Program)(w:World)(K:PySem.W.Frag)(mg:Str->Option Value)(base:Heap)(N:List Str)(qual:Str)(scope:Scope)(f:Addr)(cd:Value)(A:Around)(outer:List Env)(s:Shared)(H:Hp)(E:XK):Cx where
 prog:=P
 w:=w
 K:=K
 mg:=mg
 base:=base
 A:=A.deeper (envOfC qual scope s.heap.objs.size f cd)
 N:=N
 s₀:=s
 H₀:=H
 env:=envOfC qual scope s.heap.objs.size f cd
 outer:=outer
 stack:=envOfC qual scope s.heap.objs.size f cd::outer
 ex:=[]
 calm:=true
 fn:=fun _=>true
 pn:=[]
 xe:=fun e s'=>wpAny (model P w) (A.deeper (envOfC qual scope s.heap.objs.size f cd)) (leaving (envOfC qual scope s.heap.objs.size f cd) e) (fun _ s''=>CX outer H s E e s'') (fun e' s''=>CX outer H s E e' s'') s'
theorem cell_has{sc:Scope}{n:Nat}{x:Str}(h:sc.names.lookup x=some .cell):∃ c,(cellsFrom n sc.names []).lookup x=some c:=by
 have q:=PySem.W.cellsFrom_some sc.names n [] (.inl h)
 exact Option.isSome_iff_exists.mp q
theorem inv_start{CX:CXT}{P:Program}{w:World}{K:PySem.W.Frag}{mg:Str->Option Value}{base:Heap}{N ps:List Str}{qual:Str}{scope:Scope}{f:Addr}{cd:Value}{A:Around}{outer:List Env}{s s1:Shared}{H:Hp}{E:XK}{us:List Value}{vs:List V}
  (S:FnScope N ps scope) (hd:A.handled=none) (e0:Env0 P w K mg base A outer s H) (hl:vs.length=ps.length) (r:Vals vs us)
  (x:InCallC s s.heap.objs.size (bindL (envOfC qual scope s.heap.objs.size f cd).kindOf (ps.zip us) fun _=>none) (cellsFrom (s.heap.objs.size+1) scope.names []) (bindC (envOfC qual scope s.heap.objs.size f cd).kindOf (ps.zip us) fun _=>none) s1) :
  Inv (cxOf CX P w K mg base N qual scope f cd A outer s H E) [] (start N vs) H s1:=by
 have hpl:ps.length<=N.length:=by have:=congrArg List.length S.pre;rw [List.length_take] at this;lia
 obtain ⟨h1,tk,rfl,hk⟩:=x.done
 have noA:∀ b:Addr,b∉(cxOf CX P w K mg base N qual scope f cd A outer s H E).ex:=fun b z=>absurd (show b∈([]:List Addr) from z) (by simp)
 refine ⟨⟨e0.mod,S.kind,rfl,rfl,Nat.le_refl _,fun y z c h1 h2=>?_,fun y hy=>?_,fun y c _ h=>?_,fun _=>hd,Around.frames_deeper e0.frames,e0.gd,.inr ⟨rfl,rfl⟩,fun b z=>absurd z (noA b),e0.bs,e0.bsz,fun b _ _=>noA b,fun b z=>absurd z (noA b),e0.funs,e0.frf⟩,
  rfl,e0.bare,Un.kept hk,⟨_,x.toInCall.ns,fun i y v h1 h2 h3=>?_⟩,fun y c h=>⟨_,x.cell y c h⟩,e0.hok.fresh (Nat.le_refl _),fun y c h=>?_,fun p hp=>absurd (show p∈([]:List (Addr×Obj)) from hp) (by simp),e0.hok.kept hk,?_⟩
 ·exact name_of_addr x.apart (PySem.mem_of_lookup h1) (PySem.mem_of_lookup h2)
 ·have hy:scope.names.lookup y=some .cell\/scope.names.lookup y=some .free:=hy
  rcases hy with hy | hy
  ·exact cell_has hy
  ·exact absurd rfl (S.nofree _ (PySem.mem_of_lookup hy))
 ·exact Nat.le_of_lt (x.above y c (PySem.mem_of_lookup h))
 ·have hi:i<vs.length:=by
   unfold start at h2
   by_cases hi:i<vs.length
   ·exact hi
   ·rw [List.getElem?_append_right (by simpa using hi)] at h2
    rw [List.getElem?_replicate] at h2
    split at h2<;>cases h2
  have ha:vs[i]? = some v:=by
   unfold start at h2
   rw [List.getElem?_append_left (by simpa using hi),List.getElem?_map] at h2
   cases e:vs[i]? with
   | none=>rw [e] at h2;cases h2
   | some a=>rw [e] at h2;cases h2;rfl
  obtain ⟨u,hu,rv⟩:=r.get ha
  have hp:ps[i]? = some y:=by
   rw [<-S.pre,List.getElem?_take_of_lt (by lia)];exact h1
  have ndP:ps.Nodup:=by rw [<-S.pre];exact S.nd.sublist (List.take_sublist _ _)
  refine ⟨u,rv,?_⟩
  rcases S.par y (List.mem_of_getElem? hp) with k | k
  ·exact .inl ⟨k,bindL_get ndP hp hu k⟩
  ·obtain ⟨c,e⟩:=cell_has (n:=s.heap.objs.size+1) k
   refine .inr ⟨.inl k,c,e,?_⟩
   have q:=x.cell y c e
   rw [bindC_get ndP hp hu (by show scope.names.lookup y≠_;rw [k];decide)] at q
   exact q
 ·exact e0.hok.fresh (Nat.le_of_lt (x.above y c (PySem.mem_of_lookup h)))
 ·unfold start
  show _=N.length
  rw [List.length_append,List.length_map,List.length_replicate]
  lia
theorem fn_of{CX:CXT}{P:Program}{w:World}{K:PySem.W.Frag}{mg:Str->Option Value}{base:Heap}{k:Nat}{f:Addr}{name qual:Str}{params:Arguments}{body:List Stmt}{scope:Scope}{dV kV doc pm cdv ct oc:Value}{an od:Option Addr}
  {osl:Array (Option Value)} {N ps:List Str} {sp:Sp} (lk:K.lookup f=some ⟨oc,od,.func (PySem.W.fnOf name qual params body scope dV kV doc pm an cdv ct),osl⟩) (hcd:PySem.W.codeIn K cdv qual=true) (S:FnScope N ps scope)
  (len:∀ vs H Q E,sp vs H Q E->vs.length=ps.length)
  (hbody:∀ (A:Around) (outer:List Env) (s:Shared) (H:Hp) (vs:List V) (Q:VK) (E:XK),Room k (A.deeper (envOfC qual scope s.heap.objs.size f cdv))->sp vs H Q E ->
   ∃ t,PSs (cxOf CX P w K mg base N qual scope f cdv A outer s H E) body t/\t { nx:=fun _ H'=>Q .non H',rt:=Q } (start N vs) H) :
  FnOk P w K mg base CX (k+1) f (PySem.W.fnOf name qual params body scope dV kV doc pm an cdv ct) ps sp:=by
 refine ⟨len,fun A outer s H args us vs Q E hr e0 hb r hsp=>?_⟩
 have hl:=len _ _ _ _ hsp
 have KX:K.In s.heap:=e0.mod.kin.keeps fun b o e=>(e0.bs b o e).1
 have lim:s.heap.NoLimit:=e0.mod.nolimit.keeps fun b o e=>(e0.bs b o e).1
 have hkind:∀ y∈ps.zip us,scope.names.lookup y.1=some .local\/(scope.names.lookup y.1=some .cell/\((cellsFrom (s.heap.objs.size+1) scope.names []).lookup y.1).isSome=true):=fun ⟨n,v⟩ hy=>by
  rcases S.par n (List.of_mem_zip hy).1 with q | q
  ·exact .inl q
  ·exact .inr ⟨q,PySem.W.cellsFrom_some _ _ _ (.inl q)⟩
 refine codeAny_call_function hr.depth (KX _ _ lk) rfl S.co S.gen rfl (PySem.W.codeRec_of KX hcd) (hb _ _ _ _ ?_)
 refine wpAny_newFunctionEnv_cells S.kind hkind fun env he s1 x=>?_
 subst he
 refine ⟨lim.keeps x.toInCall.keep,codeAny_func ?_⟩
 obtain ⟨t,ht,hq⟩:=hbody A outer s H vs Q E (hr.deeper _) hsp
 have I:Inv (cxOf CX P w K mg base N qual scope f cdv A outer s H E) [] (start N vs) H s1:=inv_start S hr.hd e0 hl r x
 refine wpAny_mono (ht [] s1 (start N vs) H _ I hq) (fun fl s' hs=>?_) fun e s' hs=>hs
 have fin:∀ {σ':St} {H':Hp} {v:V} {u:Value},Inv (cxOf CX P w K mg base N qual scope f cdv A outer s H E) [] σ' H' s'->RelV v u->Q v H'->CE outer P w H s Q u s' :=
  fun {σ' H' v u} J rv q=>⟨v,H',J.os,J.bare,J.base,J.hok,rv,q⟩
 cases fl with
 | ret u =>
  obtain ⟨v,σ',H',J,rv,q⟩:=hs
  exact fin J rv q
 | next =>
  obtain ⟨σ',H',J,q⟩:=hs
  exact fin (v:=V.non) (u:=Value.none) J rfl q
 | brk =>
  obtain ⟨_,_,_,q⟩:=hs
  exact False.elim q
 | cont =>
  obtain ⟨_,_,_,q⟩:=hs
  exact False.elim q
open PySem PySem.Spec PyProof.Rows
section
variable {X:Cx} {x:Str} {p pos:Pos} {e:Expr} {es:List Expr} {t:TA} {id T:String} {r:List V->Hp->VK->Prop}
def tCB(r:List V->Hp->VK->Prop)(t:TA):TE:=fun σ H Q=>t σ H fun vs H1=>r vs H1 Q
theorem z_x(hc:CallR X (.builtin id) r)(hg:Gl X x)(hm:X.mg x=none)(hv:bootBuiltins x=some (.builtin id))(ha:PA X (e::es) t)(hn:x ≠ "__name__" := by decide)(hdb:(x == ("__debug__" : Str))=false:=by decide)
  (he:starEach (e::es) X.env=(false,eval e X.env)::starEach es X.env:=by rfl) (hpl:(backTo pos (starEach es X.env)).any (·.1)=false:=by rfl):PE X (.Call (.Name x p) (e::es) [] pos) (tCB r t):=by
 intro pins s σ H Q I h
 refine wpAny_Call_Name_kw (ld_blt I hg hm hv ?_ hn hdb)
 exact PyProof.Rows.callWith_builtin1 (thn (ha pos pins s σ H _ I h) fun us s1 ⟨vs,H1,I1,r1,q1⟩=>hc pins s1 σ H1 vs us Q I1 r1 q1) he hpl
theorem y_i(hc:CallR X (.type T) r)(hg:Gl X x)(hm:X.mg x=none)(hv:bootBuiltins x=some (.type T))(ha:PA X (e::es) t)(hn:x ≠ "__name__" := by decide)(hdb:(x == ("__debug__" : Str))=false:=by decide)
  (he:starEach (e::es) X.env=(false,eval e X.env)::starEach es X.env:=by rfl) (hpl:(backTo pos (starEach es X.env)).any (·.1)=false:=by rfl):PE X (.Call (.Name x p) (e::es) [] pos) (tCB r t):=by
 intro pins s σ H Q I h
 refine wpAny_Call_Name_kw (ld_blt I hg hm hv ?_ hn hdb)
 exact PyProof.Rows.callWith_type1 (thn (ha pos pins s σ H _ I h) fun us s1 ⟨vs,H1,I1,r1,q1⟩=>hc pins s1 σ H1 vs us Q I1 r1 q1) he hpl
end
end L2
namespace HT
open PySem PyProof.Rows
section
open PySem.SeqAt
open PySem.AutoSeq1 (wpAny_loadPart')
open PySem.MeetsSeq PySem.MeetsSeq2 PySem.MeetsSeq3
end
section
variable {prog:Program} {w:World} {A:Around} {E:Value->Shared->Prop} {s:Shared}
theorem cat_tup{t b:Addr}{vs ws:List Value}{Q:Value->Shared->Prop}(ht:IsTup s.heap t vs.toArray)(hb:IsTup s.heap b ws.toArray)(hv:vs≠[])
  (h1:ws=[]->Q (.ref t) s) (h2:ws≠[]->Q (.ref s.heap.objs.size) { s with heap:=s.heap.push { cls:=.type "tuple",data:=.seq (vs++ws).toArray } })
  (hsz:vs.length+ws.length<=sizeLine):wpAny (model prog w) A (binaryOp .Add (.ref t) (.ref b)) Q E s:=by
 obtain ⟨⟨cls,dd,data,sl⟩,ho,hc,n,hd⟩:=id ht
 obtain ⟨⟨cls2,dd2,data2,sl2⟩,ho2,hc2,n2,hd2⟩:=id hb
 simp only at hc hd hc2 hd2
 subst hc hd hc2 hd2
 have e:vs.toArray++ws.toArray=(vs++ws).toArray:=by simp
 by_cases hw:ws=[]
 ·exact concat_meets ⟨_,ho,rfl⟩ ⟨_,ho2,rfl⟩ noFill_tuple_add seq_tuple_add PySem.F.slot_tuple_add PySem.F.entry_tuple_add (PySem.F.args_tuple_add_2 _ _)
   (tuple_addW1 t b vs.toArray ws.toArray n n2 dd dd2 sl sl2 (by simpa using hv) (by simp [hw])) ⟨ho,ho2,h1 hw⟩
 ·refine concat_meets ⟨_,ho,rfl⟩ ⟨_,ho2,rfl⟩ noFill_tuple_add seq_tuple_add PySem.F.slot_tuple_add PySem.F.entry_tuple_add (PySem.F.args_tuple_add_2 _ _)
   (tuple_addW2 t b vs.toArray ws.toArray n n2 dd dd2 sl sl2 (by simpa using hv) (by simpa using hw) (by rw [List.size_toArray,List.size_toArray];exact hsz)) ⟨ho,ho2,?_⟩
  rw [e]
  exact h2 hw
def sIx(n d:Nat):Option Int->Nat
 | none=>d
 | some v=>if v<0 then (v+(n:Int)).toNat else min v.toNat n
theorem sIx_none(n d:Nat):sIx n d none=d:=rfl
theorem sIx_nat(n d k:Nat):sIx n d (some (k:Int))=min k n:=by
 show (if (k:Int)<0 then ((k:Int)+(n:Int)).toNat else min (k:Int).toNat n)=min k n
 rw [if_neg (by lia),Int.toNat_natCast]
theorem sIx_le(n d:Nat)(hd:d<=n)(o:Option Int):sIx n d o<=n:=by
 cases o with
 | none=>exact hd
 | some v =>
  show (if v<0 then (v+(n:Int)).toNat else min v.toNat n)<=n
  by_cases hv:v<0
  ·rw [if_pos hv];lia
  ·rw [if_neg hv];exact Nat.min_le_right _ _
theorem clip_eq(v:Int)(n d:Nat):(if v<0 then max (v+(n:Int)) 0 else min v (n:Int))=((sIx n d (some v):Nat):Int):=by
 show (if v<0 then max (v+(n:Int)) 0 else min v (n:Int))=(((if v<0 then (v+(n:Int)).toNat else min v.toNat n):Nat):Int)
 by_cases hv:v<0
 ·simp only [if_pos hv];lia
 ·simp only [if_neg hv];lia
theorem adjust_gen(lo hi:Option Int)(n:Nat):Builtin.Slice.sliceAdjust lo hi 1 (n:Int)=(((sIx n 0 lo:Nat):Int),((sIx n n hi:Nat):Int)):=by
 have h1:¬((1:Int)<0):=by lia
 unfold Builtin.Slice.sliceAdjust
 simp only [h1,if_false]
 refine Prod.ext ?_ ?_
 ·cases lo with
  | none=>rfl
  | some v=>exact clip_eq v n 0
 ·cases hi with
  | none=>rfl
  | some v=>exact clip_eq v n n
theorem places_gen(i j:Nat):Builtin.Slice.slicePlaces (i:Int) (j:Int) 1=j-i:=by
 unfold Builtin.Slice.slicePlaces
 have h1:(1:Int) > 0:=by lia
 simp only [h1,if_true,Int.ediv_one]
 split<;>lia
theorem slicePart_{v:Value}{o:Option Int}{Q:Option Int->Shared->Prop}(p:IsPart v o)(h:Q o s):wpAny (model prog w) A (Builtin.Slice.slicePartIndex v) Q E s:=by
 cases p with
 | none=>exact slicePart_none h
 | int i t=>exact slicePart_int h
theorem sliceApplied_gen{sl:Addr}{vl vu:Value}{lo hi:Option Int}{n:Nat}{Q:Int×Int×Nat->Shared->Prop}(hs:s.heap.IsSliceOf sl vl vu .none)(pl:IsPart vl lo)(pu:IsPart vu hi)
  (h:Q (((sIx n 0 lo:Nat):Int),1,sIx n n hi-sIx n 0 lo) s):wpAny (model prog w) A (Builtin.Slice.sliceApplied (.ref sl) (pure (n:Int))) Q E s:=by
 obtain ⟨os,hos,hcs,hds⟩:=id hs
 unfold Builtin.Slice.sliceApplied Builtin.Slice.sliceFields
 refine wpAny_bind (wpAny_bind (wpAny_field hos hds (x:=vl) rfl (wpAny_bind (wpAny_field hos hds (x:=vu) rfl (wpAny_bind (wpAny_field hos hds (x:=.none) rfl (wpAny_pure ?_)))))))
 refine wpAny_bind (slicePart_none ?_)
 show wpAny _ _ (if ((1:Int) == 0)=true then _ else _) _ _ s
 rw [if_neg (by decide)]
 refine wpAny_bind (slicePart_ pl (wpAny_bind (slicePart_ pu (wpAny_bind (wpAny_pure ?_)))))
 show wpAny _ _ (match Builtin.Slice.sliceAdjust lo hi 1 (n:Int) with | (lo,hi)=>pure (lo,(1:Int),Builtin.Slice.slicePlaces lo hi 1)) _ _ s
 rw [adjust_gen lo hi n]
 show wpAny _ _ (pure (((sIx n 0 lo:Nat):Int),(1:Int),Builtin.Slice.slicePlaces ((sIx n 0 lo:Nat):Int) ((sIx n n hi:Nat):Int) 1)) _ _ s
 rw [places_gen]
 exact wpAny_pure h
theorem pick_gen(xs:Array Value)(i k:Nat):((List.range k).filterMap fun (m:Nat)=>xs[((i:Int)+(m:Int)*1).toNat]?).toArray=((xs.toList.drop i).take k).toArray:=by
 have e:(fun (m:Nat)=>xs[((i:Int)+(m:Int)*1).toNat]?)=fun m=>xs[i+m]? := by
  funext m
  have:((i:Int)+(m:Int)*1).toNat=i+m:=by lia
  rw [this]
 rw [e]
 have:=pick_run xs i k
 rw [List.filterMap_map] at this
 have e2:((fun x=>xs[x]?) ∘ fun x=>i+x)=fun m=>xs[i+m]? := rfl
 rw [e2] at this
 rw [this]
theorem getItem_tuple_cut{t sl:Addr}{items:Array Value}{vl vu:Value}{lo hi:Option Int}{Q:Value->Shared->Prop}(ht:IsTup s.heap t items)(hs:s.heap.IsSliceOf sl vl vu .none)(pl:IsPart vl lo)(pu:IsPart vu hi)
  (hw:¬(sIx items.size 0 lo=0/\sIx items.size items.size hi=items.size))
  (h:Q (.ref s.heap.objs.size) { s with heap:=s.heap.push { cls:=.type "tuple",data:=.seq ((items.toList.drop (sIx items.size 0 lo)).take (sIx items.size items.size hi-sIx items.size 0 lo)).toArray } })
  (hsz:items.size<=sizeLine):wpAny (model prog w) A (getItem (.ref t) (.ref sl)) Q E s:=by
 have htake:sizeOk (.seq ((items.toList.drop (sIx items.size 0 lo)).take (sIx items.size items.size hi-sIx items.size 0 lo)).toArray):=by
  show ((items.toList.drop (sIx items.size 0 lo)).take (sIx items.size items.size hi-sIx items.size 0 lo)).toArray.size<=sizeLine
  rw [List.size_toArray,List.length_take,List.length_drop,Array.length_toList]
  lia
 have hj:sIx items.size items.size hi<=items.size:=sIx_le _ _ (Nat.le_refl _) hi
 obtain ⟨os,hos,hcs,hds⟩:=id hs
 have hTs:s.TypeIs (.ref sl) "slice" := ⟨os,hos,hcs⟩
 unfold getItem
 try with_reducible refine wpAny_holding ?_
 first | refine wpAny_bind (wpAny_pure ?_) | skip
 refine wpAny_bind (wpAny_sequenceKey ht.typeIs (by decide) ?_)
 refine wpAny_bind (wpAny_callSpecial?_slot (name:=Str.ofString "__getitem__") ht.typeIs PyProof.Rows.slot_tuple_getitem
  (wpAny_call_entry PyProof.Rows.slot_tuple_getitem ht.typeIs entry_tuple_getitem ?_ (args_tuple_getitem _ _)))
 show wpAny _ _ (Builtin.Tuple.tupleItemsOf (.ref t) >>= _) _ _ s
 refine wpAny_bind (tupleItemsOf_ ht ?_)
 refine wpAny_bind (wpAny_typeOf hTs ?_)
 rw [if_pos (by decide)]
 refine wpAny_bind (sliceApplied_gen hs pl pu ?_)
 have hno:¬((((sIx items.size 0 lo:Nat):Int) == 0&&(1:Int) == 1&&(sIx items.size items.size hi-sIx items.size 0 lo) == items.size)=true):=by
  intro q
  rw [Bool.and_eq_true,Bool.and_eq_true] at q
  have q1:((sIx items.size 0 lo:Nat):Int)=0:=eq_of_beq q.1.1
  have q2:sIx items.size items.size hi-sIx items.size 0 lo=items.size:=eq_of_beq q.2
  exact hw ⟨by lia,by lia⟩
 show wpAny _ _ (if (((sIx items.size 0 lo:Nat):Int) == 0&&(1:Int) == 1&&(sIx items.size items.size hi-sIx items.size 0 lo) == items.size)=true then _ else _) _ _ s
 rw [if_neg hno,pick_gen]
 first
  | exact wpAny_bind (m:=Builtin.Tuple.tupleExact _) (wpAny_newObj_type (wpAny_pure ⟨_,rfl,wpAny_pure h⟩) htake)
  | exact wpAny_bind (m:=Builtin.Tuple.tupleExact _) (wpAny_newObj_type (wpAny_bind (wpAny_pure (wpAny_pure ⟨_,rfl,wpAny_pure h⟩))) htake)
  | exact wpAny_bind (wpAny_bind (m:=Builtin.Tuple.tupleExact _) (wpAny_newObj_type (wpAny_pure (wpAny_pure ⟨_,rfl,wpAny_pure h⟩)) htake))
  | exact wpAny_bind (wpAny_bind (m:=Builtin.Tuple.tupleExact _) (wpAny_newObj_type (wpAny_pure ⟨_,rfl,wpAny_pure h⟩) htake))
end
end HT
namespace L2
open PySem PySem.Spec PyProof.Rows
abbrev TO:=St->Hp->(Option Int->Hp->Prop)->Prop
def PO(X:Cx)(e:Option Expr)(t:TO):Prop :=
 ∀ (pins:List (Addr×Obj)) (s:Shared) (σ:St) (H:Hp) (Q:Option Int->Hp->Prop),Inv X pins σ H s->t σ H Q ->
  wpAny (model X.prog X.w) X.A (evalPart e X.env) (fun u s'=>∃ o H',Inv X pins σ H' s'/\IsPart u o/\Q o H') X.xe s
def tNoPart:TO:=fun _ H Q=>Q none H
def tPart(t:TE):TO:=fun σ H Q=>t σ H fun x H1=>∃ i,x = .int i/\Q (some i) H1
section
variable {X:Cx} {e:Expr} {te:TE} {lo hi:Option Expr} {tl th:TO} {pos p2:Pos}
theorem po_none:PO X none tNoPart:=by
 intro pins s σ H Q I h
 rw [evalPart_none]
 exact wpAny_pure ⟨none,H,I,.none,h⟩
theorem po_some(h:PE X e te):PO X (some e) (tPart te):=by
 intro pins s σ H Q I hw
 rw [evalPart_some]
 refine thn (h pins s σ H _ I hw) fun u s1 ⟨x,H1,I1,r1,q1⟩=>?_
 obtain ⟨i,rfl,q⟩:=q1
 obtain ⟨t,rfl⟩:=r1
 exact ⟨some i,H1,I1,.int i t,q⟩
def SlR(X:Cx)(r:V->Option Int->Option Int->Hp->VK->Prop):Prop :=
 ∀ (pins:List (Addr×Obj)) (s:Shared) (σ:St) (H:Hp) (x:V) (v vl vu:Value) (lo hi:Option Int) (sl:Addr) (Q:VK),Inv X pins σ H s->RelV x v->s.heap.IsSliceOf sl vl vu .none->IsPart vl lo->IsPart vu hi->r x lo hi H Q ->
  ∃ T id,typeLookup (.type T) "__getitem__" = pure (some (.builtin id))/\s.TypeIs v T/\wpAny (model X.prog X.w) X.A (getItem v (.ref sl)) (EP X pins σ Q) X.xe s
def tSl(r:V->Option Int->Option Int->Hp->VK->Prop)(te:TE)(tl th:TO):TE:=fun σ H Q=>te σ H fun x H1=>tl σ H1 fun l H2=>th σ H2 fun u H3=>r x l u H3 Q
theorem pe_slice{r:V->Option Int->Option Int->Hp->VK->Prop}(hr:SlR X r)(he:PE X e te)(hl:PO X lo tl)(hu:PO X hi th):PE X (.Subscript e (.Slice lo hi none p2) pos) (tSl r te tl th):=by
 intro pins s σ H Q I h
 refine Subscript_ (thn (he pins s σ H _ I h) fun v s1 ⟨x,H1,I1,r1,q1⟩=>?_)
 refine wpAny_Slice (thn (hl pins s1 σ H1 _ I1 q1) fun vl s2 ⟨l,H2,I2,pl,q2⟩=>thn (hu pins s2 σ H2 _ I2 q2) fun vu s3 ⟨u,H3,I3,pu,q3⟩=>?_)
 rw [evalPart_none]
 refine wpAny_pure ?_
 have I4:Inv X pins σ H3 { s3 with heap:=s3.heap.push { cls:=.type "slice",data:=.fields #[vl,vu,.none] } }:=I3.kept (t':=s3.toks) fun b ob q=>Heap.get?_push_of_some _ q
 obtain ⟨T,id,hT,ht,hg⟩:=hr pins { s3 with heap:=s3.heap.push { cls:=.type "slice",data:=.fields #[vl,vu,.none] } } σ H3 x v vl vu l u s3.heap.objs.size Q I4 r1 (Heap.IsSliceOf.new ..) pl pu q3
 show wpAny (model X.prog X.w) X.A (subscriptTail e (.Slice lo hi none p2) v (.ref s3.heap.objs.size)) (EP X pins σ Q) X.xe { s3 with heap:=s3.heap.push { cls:=.type "slice",data:=.fields #[vl,vu,.none] } }
 exact tail_any (ops:=[.ref s3.heap.objs.size,v]) ht hT hg (by with_unfolding_all rfl)
def cutV(xs:List V)(lo hi:Option Int):List V:=(xs.drop (HT.sIx xs.length 0 lo)).take (HT.sIx xs.length xs.length hi-HT.sIx xs.length 0 lo)
theorem cutV_length(xs:List V)(lo hi:Option Int):(cutV xs lo hi).length<=xs.length:=by
 unfold cutV
 rw [List.length_take,List.length_drop]
 lia
def rSlT(K:PySem.W.Frag):V->Option Int->Option Int->Hp->VK->Prop:=fun x lo hi H Q=>∃ a xs,x = .ref a/\SqT K H a xs /\
 ¬(HT.sIx xs.length 0 lo=0/\HT.sIx xs.length xs.length hi=xs.length)/\∀ p,H p=none->Q (.ref p) (upd H p (.tup (cutV xs lo hi)))
theorem sl_tup:SlR X (rSlT X.K):=by
 intro pins s σ H x v vl vu lo hi sl Q I rx hs pl pu h
 obtain ⟨a,xs,rfl,hx,hw,q⟩:=h
 cases rx
 obtain ⟨its,r,ht,hz⟩:=I.tuple hx
 have hlen:its.toArray.size=xs.length:=by rw [List.size_toArray];exact r.length.symm
 refine ⟨"tuple",_,PyProof.Rows.slot_tuple_getitem.lookup,ht.typeIs,?_⟩
 refine HT.getItem_tuple_cut ht hs pl pu (by rw [hlen];exact hw) ?_ (by rw [hlen];exact hz)
 rw [hlen]
 refine ⟨.ref s.heap.objs.size,_,I.laid (t':=s.toks) (o:=.tup (cutV xs lo hi)) (fun b ob q=>Heap.get?_push_of_some _ q) (Nat.le_refl _) ?_,rfl,q _ (I.hok.fresh (Nat.le_refl _))⟩
 exact ⟨Nat.le_trans (cutV_length xs lo hi) hz,_,(r.drop (HT.sIx xs.length 0 lo)).take (HT.sIx xs.length xs.length hi-HT.sIx xs.length 0 lo),IsTup.new _ _⟩
def rCatT(K:PySem.W.Frag):R2:=fun x y H Q=>∃ a b xs ys,x = .ref a/\y = .ref b/\SqT K H a xs/\SqT K H b ys/\xs≠[]/\xs.length+ys.length<=sizeLine /\
 (ys=[]->Q (.ref a) H)/\(ys≠[]->∀ p,H p=none->Q (.ref p) (upd H p (.tup (xs++ys))))
theorem Vals.nil_iff{xs:List V}{us:List Value}(r:Vals xs us):us=[]↔xs=[]:=by
 cases r with
 | nil=>simp
 | cons _ _=>simp
theorem op_catT:OpR X (binaryOp .Add) (rCatT X.K):=by
 intro pins s σ H x y v u Q I rx ry h
 obtain ⟨a,b,xs,ys,rfl,rfl,ha,hb,hx,hz,q1,q2⟩:=h
 cases rx
 cases ry
 obtain ⟨its,r1,p1,_⟩:=I.tuple ha
 obtain ⟨its2,r2,p2,_⟩:=I.tuple hb
 refine HT.cat_tup p1 p2 (fun z=>hx (r1.nil_iff.mp z)) (fun z=>⟨.ref a,H,I,rfl,q1 (r2.nil_iff.mp z)⟩) (fun z=>?_) (by rw [<-r1.length,<-r2.length];exact hz)
 refine ⟨.ref s.heap.objs.size,_,I.laid (t':=s.toks) (o:=.tup (xs++ys)) (fun b ob q=>Heap.get?_push_of_some _ q) (Nat.le_refl _) ?_,rfl,q2 (fun w=>z (r2.nil_iff.mpr w)) _ (I.hok.fresh (Nat.le_refl _))⟩
 exact ⟨by rw [List.length_append];exact hz,_,r1.append r2,IsTup.new _ _⟩
end
open PySem PySem.Spec PyProof.Rows
def ixN(n:Nat)(i:Int):Option Nat:=if 0<=i then (if i<n then some i.toNat else none) else if -(n:Int)<=i then some (i+n).toNat else none
def atI{α:Type}(xs:List α)(i:Int):Option α:=(ixN xs.length i).bind fun j=>xs[j]?
theorem ixN_seq{n:Nat}{i:Int}{j:Nat}(h:ixN n i=some j):seqIndex? i n=some j/\j<n /\ -(n:Int)<=i/\i<n:=by
 unfold ixN at h
 by_cases h0:0<=i
 ·rw [if_pos h0] at h
  by_cases h1:i<n
  ·rw [if_pos h1] at h
   have e:i.toNat=j:=Option.some.inj h
   exact ⟨by rw [seqIndex_of h0 h1,e],by lia,by lia,h1⟩
  ·rw [if_neg h1] at h;cases h
 ·rw [if_neg h0] at h
  by_cases h1 : -(n:Int)<=i
  ·rw [if_pos h1] at h
   have e:(i+n).toNat=j:=Option.some.inj h
   exact ⟨by rw [seqIndex_neg (by lia) h1,e],by lia,h1,by lia⟩
  ·rw [if_neg h1] at h;cases h
theorem atI_get{α:Type}{xs:List α}{i:Int}{v:α}(h:atI xs i=some v):∃ j,seqIndex? i xs.length=some j/\xs[j]? = some v/\j<xs.length /\ -(xs.length:Int)<=i/\i<xs.length:=by
 unfold atI at h
 cases e:ixN xs.length i with
 | none=>rw [e] at h;cases h
 | some j =>
  rw [e] at h
  obtain ⟨h1,h2,h3,h4⟩:=ixN_seq e
  exact ⟨j,h1,h,h2,h3,h4⟩
theorem z_u{α:Type}{xs:List α}{j:Nat}{v:α}(h:xs[j]? = some v):atI xs (j:Int)=some v:=by
 have hj:j<xs.length:=(List.getElem?_eq_some_iff.mp h).1
 have e:ixN xs.length (j:Int)=some j:=by
  unfold ixN
  rw [if_pos (by lia),if_pos (by lia)];simp
 unfold atI;rw [e];exact h
def PlainIx(b:Expr):Prop:=∀ o i,subscripted b false o i=operate [o,i] (getItem o i)
def IxR(X:Cx)(r:R2):Prop :=
 ∀ (value slice:Expr) (pins:List (Addr×Obj)) (s:Shared) (σ:St) (H:Hp) (x y:V) (v u:Value) (Q:VK),Inv X pins σ H s->RelV x v->RelV y u->r x y H Q ->
  subscripted slice false v u=operate [v,u] (getItem v u)->wpAny (model X.prog X.w) X.A (subscriptTail value slice v u) (EP X pins σ Q) X.xe s
def MtR(X:Cx)(id:String)(r:V->List V->Hp->VK->Prop):Prop :=
 ∀ (pins:List (Addr×Obj)) (s:Shared) (σ:St) (H:Hp) (x:V) (xs:List V) (v:Value) (us:List Value) (Q:VK),Inv X pins σ H s->RelV x v->Vals xs us->r x xs H Q ->
  wpAny (model X.prog X.w) X.A (call (.builtin id) (v::us)) (EP X pins σ Q) X.xe s
section
variable {X:Cx} {a b:Expr} {ta tb:TE} {pos:Pos}
theorem z_m{r:R2}(hr:IxR X r)(ha:PE X a ta)(hb:PE X b tb)(hs:PlainIx b):PE X (.Subscript a b pos) (tOp r ta tb):=by
 intro pins s σ H Q I h
 exact Subscript_ (binT ha hb I h fun v u s2 x y H2 I2 rx ry q=>hr a b pins s2 σ H2 x y v u Q I2 rx ry q (hs _ _))
def rIxL(K:PySem.W.Frag):R2:=fun x y H Q=>∃ p xs i v,x = .ref p/\y = .int i/\SqL K H p xs/\atI xs i=some v/\Q v H
def rIxT(K:PySem.W.Frag):R2:=fun x y H Q=>∃ p xs i v,x = .ref p/\y = .int i/\SqT K H p xs/\atI xs i=some v/\Q v H
def rIxS:R2:=fun x y H Q=>∃ z i c,x = .str z/\y = .int i/\z.length<=sizeLine/\atI z.cps.toList i=some c/\Q (.str ⟨#[c]⟩) H
theorem z_o:IxR X (rIxL X.K):=by
 intro value slice pins s σ H x y v u Q I rx ry h hs
 obtain ⟨p,xs,i,z,rfl,rfl,hq,he,q⟩:=h
 cases rx
 obtain ⟨t,rfl⟩:=ry
 obtain ⟨its,r,pl,hz⟩:=I.list hq
 obtain ⟨j,h1,h2,h3,h4,h5⟩:=atI_get he
 obtain ⟨w,ew,rw'⟩:=r.get h2
 have hl:=r.length
 have hn:=line63
 have fin:EP X pins σ Q w s:=⟨z,H,I,rw',q⟩
 by_cases h0:0<=i
 ·have hj:i.toNat=j:=by
   rw [seqIndex_of h0 h5] at h1
   exact Option.some.inj h1
  exact item_listR pl.isList h0 (by lia) (by rw [hj];simpa using ew) fin hs
 ·have hj:(i+(its.toArray.size:Int)).toNat=j:=by
   rw [seqIndex_neg (by lia) h4] at h1
   rw [List.size_toArray,<-hl]
   exact Option.some.inj h1
  exact subscriptTail_builtinR (x:=w) pl.isList.typeIs slot_list_getitem.lookup
   (wpAny_getItem_list_neg (Q:=fun r s'=>r=w/\EP X pins σ Q r s') pl.isList (by lia) (by rw [List.size_toArray]<;>lia) (by lia) (by rw [hj];simpa using ew) ⟨rfl,fin⟩) hs
theorem z_w:IxR X (rIxT X.K):=by
 intro value slice pins s σ H x y v u Q I rx ry h hs
 obtain ⟨p,xs,i,z,rfl,rfl,hq,he,q⟩:=h
 cases rx
 obtain ⟨t,rfl⟩:=ry
 obtain ⟨its,r,pl,hz⟩:=I.tuple hq
 obtain ⟨j,h1,h2,h3,h4,h5⟩:=atI_get he
 obtain ⟨w,ew,rw'⟩:=r.get h2
 have hl:=r.length
 have hn:=line63
 have fin:EP X pins σ Q w s:=⟨z,H,I,rw',q⟩
 exact subscriptTail_builtinR (x:=w) pl.typeIs slot_tuple_getitem.lookup
  (getItem_tuple (j:=j) (Q:=fun r s'=>r=w/\EP X pins σ Q r s') pl (by lia) (by lia) (by rw [List.size_toArray,<-hl];exact h1) (by simpa using ew) ⟨rfl,fin⟩) hs
theorem ix_str:IxR X rIxS:=by
 intro value slice pins s σ H x y v u Q I rx ry h hs
 obtain ⟨z,i,c,rfl,rfl,hz,he,q⟩:=h
 obtain ⟨t,rfl⟩:=rx
 obtain ⟨t',rfl⟩:=ry
 obtain ⟨j,h1,h2,h3,h4,h5⟩:=atI_get he
 have hl:z.cps.toList.length=z.length:=by simp [Str.length]
 rw [hl] at h1 h4 h5
 have hn:=line63
 exact tail_any (typeIs_str s z t) slot_str_getitem.lookup (getItem_str (c:=c) (by
  have e1:decide (i < -(2^63:Int))=false:=decide_eq_false (by lia)
  have e2:decide (i≥2^63)=false:=decide_eq_false (by lia)
  rw [e1,e2,Bool.or_false]) (by rw [h1];simpa using h2) ⟨.str ⟨#[c]⟩,H,I.tok _,⟨_,rfl⟩,q⟩) hs
theorem mapSeq_set(its:List Value)(n j:Nat)(u:Value):Obj.mapSeq (·.setIfInBounds j u) { cls:=.type "list",data:=.seq its.toArray n }={ cls:=.type "list",data:=.seq (its.set j u).toArray n }:=by
 simp [Obj.mapSeq]
theorem Inv.lst{pins:List (Addr×Obj)}{σ:St}{H:Hp}{s:Shared}{p:Addr}{xs:List V}(I:Inv X pins σ H s)(h:H p=some (.lst xs)) :
  ∃ (its:List Value) (n:Nat),Vals xs its/\s.heap.get? p=some { cls:=.type "list",data:=.seq its.toArray n }/\xs.length<=sizeLine:=by
 obtain ⟨z,its,n,r,e⟩:=I.hok p _ h
 exact ⟨its,n,r,e,z⟩
theorem Inv.lstUpd{pins:List (Addr×Obj)}{σ:St}{H:Hp}{s:Shared}{p:Addr}{xs ys:List V}{its its':List Value}{n n':Nat}{f:Obj->Obj}(I:Inv X pins σ H s)(h:H p=some (.lst xs))
  (ho:s.heap.get? p=some { cls:=.type "list",data:=.seq its.toArray n }) (hf:f { cls:=.type "list",data:=.seq its.toArray n }={ cls:=.type "list",data:=.seq its'.toArray n' }) (r:Vals ys its') (hz:ys.length<=sizeLine) (t:Nat) :
  Inv X pins σ (upd H p (.lst ys)) { s with heap:=s.heap.update p f,toks:=t }:=by
 have e:(s.heap.update p f).get? p=some { cls:=.type "list",data:=.seq its'.toArray n' }:=by
  rw [Heap.get?_update_self f ho (by rw [hf]<;>rfl),hf]
 refine I.write (x:=p) (e:=p) (by rw [h];trivial) (.inl rfl) (fun b u hb q=>(Heap.get?_update_other _ _ (Ne.symm hb)).trans q) ⟨_,e⟩ ?_
 exact ⟨hz,its',n',r,e⟩
def rSetL:V->V->V->Hp->(Hp->Prop)->Prop:=fun o i v H Q=>∃ p xs k j,o = .ref p/\i = .int k/\H p=some (.lst xs)/\ixN xs.length k=some j/\Q (upd H p (.lst (xs.set j v)))
theorem set_list:PSet X rSetL:=by
 intro pins s σ H o i v ov iv u Q I ro ri rv h
 obtain ⟨p,xs,k,j,rfl,rfl,hp,hj,q⟩:=h
 cases ro
 obtain ⟨t,rfl⟩:=ri
 obtain ⟨its,n,r,ho,hz⟩:=I.lst hp
 obtain ⟨h1,h2,h3,h4⟩:=ixN_seq hj
 have hl:=r.length
 have hn:=line63
 have I':Inv X pins σ (upd H p (.lst (xs.set j v))) { s with heap:=s.heap.update p (Obj.mapSeq (·.setIfInBounds j u)) } :=
  I.lstUpd hp ho (mapSeq_set its n j u) (r.set rv j) (by rw [List.length_set];exact hz) s.toks
 by_cases h0:0<=k
 ·have hk:k.toNat=j:=by
   rw [seqIndex_of h0 h4] at h1
   exact Option.some.inj h1
  exact PySem.W.ki_setAt ho h0 (by lia) (by rw [List.size_toArray,<-hl];exact h4) (by rw [hk];exact ⟨_,I',q⟩)
 ·have hk:(k+(its.toArray.size:Int)).toNat=j:=by
   rw [seqIndex_neg (by lia) h3] at h1
   rw [List.size_toArray,<-hl]
   exact Option.some.inj h1
  exact PySem.W.ki_setBack ho (by lia) (by rw [List.size_toArray,<-hl];exact h3) (by lia) (by rw [hk];exact ⟨_,I',q⟩)
theorem slice_bounds(lo hi:Option Int)(n:Nat):(sliceBounds lo hi none n).1=((HT.sIx n 0 lo:Nat):Int)/\(sliceBounds lo hi none n).2.1=((HT.sIx n n hi:Nat):Int)/\(sliceBounds lo hi none n).2.2=1:=by
 refine ⟨?_,?_,rfl⟩
 ·cases lo with
  | none=>simp [sliceBounds,HT.sIx]
  | some i =>
   simp only [sliceBounds,HT.sIx,Option.getD_none,show (1:Int) > 0 by decide,if_true]
   by_cases h:i<0
   ·simp only [h,if_true]<;>lia
   ·simp only [h,if_false]<;>lia
 ·cases hi with
  | none=>simp [sliceBounds,HT.sIx]
  | some i =>
   simp only [sliceBounds,HT.sIx,Option.getD_none,show (1:Int) > 0 by decide,if_true]
   by_cases h:i<0
   ·simp only [h,if_true]<;>lia
   ·simp only [h,if_false]<;>lia
theorem slicePick_cut(its:List Value)(lo hi:Option Int):slicePick its.toArray lo hi none=((its.drop (HT.sIx its.length 0 lo)).take (HT.sIx its.length its.length hi-HT.sIx its.length 0 lo)).toArray:=by
 obtain ⟨h1,h2,h3⟩:=slice_bounds lo hi its.toArray.size
 unfold slicePick
 rw [h1,h2,h3]
 simp only [sliceRange_one,pick_run,List.size_toArray]<;>rfl
def rSlL(K:PySem.W.Frag):V->Option Int->Option Int->Hp->VK->Prop:=fun x lo hi H Q=>∃ a xs,x = .ref a/\SqL K H a xs/\∀ p,H p=none->Q (.ref p) (upd H p (.lst (cutV xs lo hi)))
theorem sl_list:SlR X (rSlL X.K):=by
 intro pins s σ H x v vl vu lo hi sl Q I rx hs pl pu h
 obtain ⟨a,xs,rfl,hx,q⟩:=h
 cases rx
 obtain ⟨its,r,ht,hz⟩:=I.list hx
 have hlen:=r.length
 refine ⟨"list",_,slot_list_getitem.lookup,ht.isList.typeIs,?_⟩
 refine wpAny_getItem_list_slice ht.isList hs pl pu .none (by simp) ?_ (by rw [List.size_toArray]<;>lia)
 rw [slicePick_cut,<-hlen]
 refine ⟨.ref s.heap.objs.size,_,I.laid (t':=s.toks) (o:=.lst (cutV xs lo hi)) (fun b ob q=>Heap.get?_push_of_some _ q) (Nat.le_refl _) ?_,rfl,q _ (I.hok.fresh (Nat.le_refl _))⟩
 exact ⟨Nat.le_trans (cutV_length xs lo hi) hz,_,0,(r.drop (HT.sIx xs.length 0 lo)).take (HT.sIx xs.length xs.length hi-HT.sIx xs.length 0 lo),Heap.get?_push_size _ rfl⟩
def flatV:V->Bool
 | .non=>true
 | .bl _=>true
 | .int _=>true
 | .str _=>true
 | _=>false
def eqV:V->V->Bool
 | .non,.non=>true
 | .bl a,.bl b=>a == b
 | .bl a,.int b=>(if a then 1 else 0) == b
 | .int a,.bl b=>a == (if b then 1 else 0)
 | .int a,.int b=>a == b
 | .str a,.str b=>a == b
 | _,_=>false
theorem eqAt_V{A:Around}{s:Shared}{y x:V}{u v:Value}(ry:RelV y u)(rx:RelV x v)(fy:flatV y=true)(fx:flatV x=true):SeqAt.EqAt A s u v (eqV y x):=by
 cases y with
 | non =>
  cases ry
  cases x with
  | non=>cases rx;exact SeqAt.EqAt.same _
  | bl b=>cases rx;exact SeqAt.EqAt.none_bool b
  | int b=>obtain ⟨t,rfl⟩:=rx;exact SeqAt.EqAt.none_int b t
  | str b=>obtain ⟨t,rfl⟩:=rx;exact SeqAt.EqAt.none_str b t
  | _=>exact absurd (show false=true from fx) Bool.false_ne_true
 | bl a =>
  cases ry
  cases x with
  | non=>cases rx;exact SeqAt.EqAt.bool_none a
  | bl b=>cases rx;exact SeqAt.EqAt.bool_bool a b
  | int b=>obtain ⟨t,rfl⟩:=rx;exact SeqAt.EqAt.bool_int a b t
  | str b=>obtain ⟨t,rfl⟩:=rx;exact SeqAt.EqAt.bool_str a b t
  | _=>exact absurd (show false=true from fx) Bool.false_ne_true
 | int a =>
  obtain ⟨t',rfl⟩:=ry
  cases x with
  | non=>cases rx;exact SeqAt.EqAt.int_none a t'
  | bl b=>cases rx;exact SeqAt.EqAt.int_bool a t' b
  | int b=>obtain ⟨t,rfl⟩:=rx;exact SeqAt.EqAt.int_int a t' b t
  | str b=>obtain ⟨t,rfl⟩:=rx;exact SeqAt.EqAt.int_str a t' b t
  | _=>exact absurd (show false=true from fx) Bool.false_ne_true
 | str a =>
  obtain ⟨t',rfl⟩:=ry
  cases x with
  | non=>cases rx;exact SeqAt.EqAt.str_none a t'
  | bl b=>cases rx;exact SeqAt.EqAt.str_bool a t' b
  | int b=>obtain ⟨t,rfl⟩:=rx;exact SeqAt.EqAt.str_int a t' b t
  | str b=>obtain ⟨t,rfl⟩:=rx;exact SeqAt.EqAt.str_str a t' b t
  | _=>exact absurd (show false=true from fx) Bool.false_ne_true
 | _=>exact absurd (show false=true from fy) Bool.false_ne_true
def eqU(x:V)(u:Value):Bool:=match u with
 | .none=>eqV .non x
 | .bool b=>eqV (.bl b) x
 | .int i _=>eqV (.int i) x
 | .str z _=>eqV (.str z) x
 | _=>false
theorem eqU_of{x y:V}{u:Value}(r:RelV y u)(f:flatV y=true):eqU x u=eqV y x:=by
 cases y with
 | non=>cases r;rfl
 | bl b=>cases r;rfl
 | int i=>obtain ⟨t,rfl⟩:=r;rfl
 | str z=>obtain ⟨t,rfl⟩:=r;rfl
 | _=>exact absurd (show false=true from f) Bool.false_ne_true
theorem any_eqU{x:V}:∀ {xs:List V} {us:List Value},Vals xs us->xs.all flatV=true->us.any (eqU x)=xs.any fun y=>eqV y x
 | _,_,.nil,_=>rfl
 | y::xs,u::us,.cons r t,f=>by
  rw [List.all_cons,Bool.and_eq_true] at f
  rw [List.any_cons,List.any_cons,eqU_of r f.1,any_eqU t f.2]
theorem mem_eqAt{A:Around}{s:Shared}{x:V}{v:Value}(rx:RelV x v)(fx:flatV x=true):∀ {xs:List V} {us:List Value},Vals xs us->xs.all flatV=true->∀ u∈us,SeqAt.EqAt A s u v (eqU x u)
 | _,_,.nil,_=>fun u hu=>by cases hu
 | y::xs,u::us,.cons r t,f=>fun u' hu=>by
  rw [List.all_cons,Bool.and_eq_true] at f
  rcases List.mem_cons.mp hu with rfl | hu
  ·rw [eqU_of r f.1];exact eqAt_V r rx f.1 fx
  ·exact mem_eqAt rx fx t f.2 u' hu
def inV(x:V)(xs:List V):Bool:=xs.any fun y=>eqV y x
def rIn(K:PySem.W.Frag)(neg:Bool):R2:=fun x y H Q=>∃ p xs,y = .ref p/\(SqL K H p xs\/SqT K H p xs)/\flatV x=true/\xs.all flatV=true/\Q (.bl (if neg then !inV x xs else inV x xs)) H
theorem op_in_seq:OpR X (compareOp .In) (rIn X.K false):=by
 intro pins s σ H x y v u Q I rx ry h
 obtain ⟨p,xs,rfl,hq,fx,fs,q⟩:=h
 cases ry
 rcases hq with hq | hq
 ·obtain ⟨its,r,pl,hz⟩:=I.list hq
  refine SeqAt.in_listAt (eqU x) pl.isList (fun w hw=>mem_eqAt rx fx r fs w (by simpa using hw)) ⟨.bl _,H,I,rfl,?_⟩
  rw [show its.toArray.any (eqU x)=its.any (eqU x) by simp,any_eqU r fs]
  exact q
 ·obtain ⟨its,r,pl,hz⟩:=I.tuple hq
  refine SeqAt.in_tupleAt (eqU x) pl (fun w hw=>mem_eqAt rx fx r fs w (by simpa using hw)) ⟨.bl _,H,I,rfl,?_⟩
  rw [show its.toArray.any (eqU x)=its.any (eqU x) by simp,any_eqU r fs]
  exact q
theorem call_list_of:CallR X (.type "list") (fun xs H Q=>∃ p ys,xs=[.ref p]/\(SqL X.K H p ys\/SqT X.K H p ys)/\∀ l,H l=none->Q (.ref l) (upd H l (.lst ys))):=by
 intro pins s σ H xs us Q I r h
 obtain ⟨p,ys,rfl,hq,q⟩:=h
 obtain ⟨u,rfl,rx⟩:=vals1 r
 cases rx
 have fin:∀ (its:List Value),Vals ys its->ys.length<=sizeLine->∀ (h':Heap) (c':Nat),(∀ b o',s.heap.get? b=some o'->h'.get? b=some o') ->
   h'.get? s.heap.objs.size=some { cls:=.type "list",dict:=none,data:=.seq its.toArray c',slots:=#[] }->EP X pins σ Q (.ref s.heap.objs.size) { s with heap:=h' }:=fun its r' hz h' c' kp e =>
  ⟨.ref s.heap.objs.size,_,I.laid (t':=s.toks) kp (Nat.le_refl _) (show ObjOk X.prog X.w _ h' _ (.lst ys) from ⟨hz,its,c',r',e⟩),rfl,q _ (I.hok.fresh (Nat.le_refl _))⟩
 rcases hq with hq | hq
 ·obtain ⟨its,r',pl,hz⟩:=I.list hq
  have hlen:=r'.length
  obtain ⟨o,ho,hc,n,hd⟩:=pl.isList
  exact call_list_seq p (.inl rfl) ho hc hd (fun h' c' kp e=>fin its r' hz h' c' kp e) (by simp only [List.size_toArray]<;>lia)
 ·obtain ⟨its,r',pl,hz⟩:=I.tuple hq
  have hlen:=r'.length
  obtain ⟨o,ho,hc,n,hd⟩:=pl
  exact call_list_seq p (.inr rfl) ho hc hd (fun h' c' kp e=>fin its r' hz h' c' kp e) (by simp only [List.size_toArray]<;>lia)
theorem call_tuple_of:CallR X (.type "tuple") (fun xs H Q=>∃ p ys,xs=[.ref p]/\((SqL X.K H p ys/\∀ l,H l=none->Q (.ref l) (upd H l (.tup ys)))\/(SqT X.K H p ys/\Q (.ref p) H))):=by
 intro pins s σ H xs us Q I r h
 obtain ⟨p,ys,rfl,h⟩:=h
 obtain ⟨u,rfl,rx⟩:=vals1 r
 cases rx
 rcases h with ⟨hq,q⟩ | ⟨hq,q⟩
 ·obtain ⟨its,r',pl,hz⟩:=I.list hq
  have hlen:=r'.length
  refine call_tuple_list pl.isList (fun h' kp=>?_) (by simp only [List.size_toArray]<;>lia)
  have I1:Inv X pins σ H { s with heap:=h' }:=I.kept (t':=s.toks) kp
  have I2:Inv X pins σ (upd H h'.objs.size (.tup ys)) { s with heap:=h'.push { cls:=.type "tuple",data:=.seq its.toArray } } :=
   I1.laid (t':=s.toks) (fun b o e=>Heap.get?_push_of_some _ e) (Nat.le_refl _) (show ObjOk X.prog X.w _ _ _ (.tup ys) from ⟨hz,its,r',IsTup.new _ _⟩)
  exact ⟨.ref h'.objs.size,_,I2,rfl,q _ (I1.hok.fresh (Nat.le_refl _))⟩
 ·obtain ⟨its,r',pl,hz⟩:=I.tuple hq
  exact call_tuple_same pl ⟨.ref p,H,I,rfl,q⟩
def tyV(K:PySem.W.Frag)(T:String)(x:V)(H:Hp):Prop:=match x with
 | .str _=>T = "str"
 | .int _=>T = "int"
 | .ref p=>(T = "list" /\ ∃ xs,SqL K H p xs)\/(T = "tuple" /\ ∃ o,K.lookup p=some o/\o.cls = .type "tuple" /\ o.dict=none) \/
   (T = "dict" /\ ((∃ kvs,H p=some (.dK kvs))\/∃ kvs,H p=some (.dT kvs)))\/(T = "set" /\ ∃ S n,H p=some (.set S n))
 | _=>False
theorem tyV_is{pins:List (Addr×Obj)}{σ:St}{H:Hp}{s:Shared}{T:String}{x:V}{v:Value}(I:Inv X pins σ H s)(r:RelV x v)(ty:tyV X.K T x H) :
  s.TypeIs v T/\∀ a,v = .ref a->∃ ob,s.heap.get? a=some ob/\ob.dict=none:=by
 cases x with
 | str z =>
  obtain ⟨t,rfl⟩:=r
  cases (show T = "str" from ty)
  exact ⟨typeIs_str s z t,fun _ e=>nomatch e⟩
 | int i =>
  obtain ⟨t,rfl⟩:=r
  cases (show T = "int" from ty)
  exact ⟨typeIs_int s i t,fun _ e=>nomatch e⟩
 | ref p =>
  cases r
  rcases ty with ⟨rfl,xs,hq⟩ | ⟨rfl,o,hk,hc,hd⟩ | ⟨rfl,hk⟩ | ⟨rfl,S,n,hk⟩
  ·obtain ⟨its,_,pl,_⟩:=I.list hq
   refine ⟨pl.isList.typeIs,fun a e=>?_⟩
   cases e
   obtain ⟨o,n,e,c,hd,_⟩:=pl
   exact ⟨o,e,hd⟩
  ·refine ⟨⟨o,I.kIn p o hk,hc⟩,fun a e=>?_⟩
   cases e
   exact ⟨o,I.kIn _ o hk,hd⟩
  ·have z:∃ o,s.heap.get? p=some o/\o.ExactDict:=by
    rcases hk with ⟨kvs,hk⟩ | ⟨kvs,hk⟩
    ·obtain ⟨_,_,_,_,o,_,_,e,ex,_⟩:=I.hok p _ hk
     exact ⟨o,e,ex⟩
    ·obtain ⟨_,_,_,_,o,_,_,e,ex,_⟩:=I.hok p _ hk
     exact ⟨o,e,ex⟩
   obtain ⟨o,e,ex⟩:=z
   refine ⟨⟨o,e,ex.1⟩,fun a e2=>?_⟩
   cases e2
   exact ⟨o,e,ex.2.1⟩
  ·obtain ⟨o,_,_,_,e,ex,_⟩:=I.hok p _ hk
   refine ⟨⟨o,e,ex.1⟩,fun a e2=>?_⟩
   cases e2
   exact ⟨o,e,ex.2.1⟩
 | _=>exact False.elim ty
def tBM(K:PySem.W.Frag)(T:String)(r:V->List V->Hp->VK->Prop)(to:TE)(t:TA):TE:=fun σ H Q=>to σ H fun x H1=>tyV K T x H1/\t σ H1 fun xs H2=>r x xs H2 Q
variable {o e:Expr} {es:List Expr} {to:TE} {t:TA} {name:Str} {apos cpos:Pos} {T id:String} {r:V->List V->Hp->VK->Prop}
theorem pe_bm(pa:PlainAttrs T)(slot:Slot T name id)(hty:typeOf (.builtin id)=pure (.type "method_descriptor"))(hm:MtR X id r)(ho:PE X o to)(ha:PA X (e::es) t)
  (hbase:attributeBase o name X.env (eval o X.env)=eval o X.env:=by rfl)
  (hfew:((backTo cpos (starEach (e::es) X.env)).all (fun x=>!x.1)&&(backToKw cpos (keywordEach [] X.env)).all (fun x=>x.1.isSome)
   && decide ((e::es).length+([]:List Keyword).length+(if ([]:List Keyword).isEmpty then 0 else 1)<30))=true:=by rfl)
  (hline:(apos.endLine == cpos.line)=true:=by rfl) (hs:starEach (e::es) X.env=(false,eval e X.env)::starEach es X.env:=by rfl) (hplain:(backTo cpos (starEach es X.env)).any (·.1)=false:=by rfl) :
  PE X (.Call (.Attribute o name apos) (e::es) [] cpos) (tBM X.K T r to t):=by
 intro pins s σ H Q I h
 refine wpAny_Call_method_late hbase hfew hline rfl (thn (ho pins s σ H _ I h) fun v s1 ⟨x,H1,I1,r1,ty,q1⟩=>?_)
 obtain ⟨h1,h2⟩:=tyV_is I1 r1 ty
 refine ⟨T,id,pa,slot,hty,h1,h2,?_⟩
 have hA:=ha cpos pins s1 σ H1 _ I1 q1
 rw [hs] at hA ⊢
 refine Calls.callWith_builtin (by show (false || (backTo cpos (starEach es X.env)).any (·.1))=false;rw [hplain]<;>rfl) (Calls.evalArgs_plain ?_)
 exact thn hA fun us s2 ⟨vs,H2,I2,r2,q2⟩=>hm pins s2 σ H2 x vs v us Q I2 r1 r2 q2
/- xs.append(e),list.index on a module's tuple .. are MtR facts of 06m -/
end
end L2
namespace L2
open PySem PySem.Spec PyProof.Rows
def MtM(X:Cx)(id:String)(r:V->List V->Hp->VK->Prop):Prop :=
 ∀ (pins:List (Addr×Obj)) (s:Shared) (σ:St) (H:Hp) (x:V) (xs:List V) (v:Value) (us:List Value) (Q:VK),Inv X pins σ H s->RelV x v->Vals xs us->r x xs H Q ->
  wpAny (model X.prog X.w) X.A (call (.builtin id) (v::us)) (EP X pins σ Q) X.xe s
theorem Vals.one:∀ {x:V} {us:List Value},Vals [x] us->∃ u,us=[u]/\RelV x u
 | _,_,.cons r .nil=>⟨_,rfl,r⟩
section
variable {X:Cx} {pins:List (Addr×Obj)} {σ:St} {H:Hp} {s:Shared} {l b:Addr} {xs ys zs:List V}
theorem Inv.lset{its its':List Value}{n:Nat}{f:Array Value->Array Value}{t':Nat}(I:Inv X pins σ H s)(hH:H l=some (.lst xs))
  (e:s.heap.get? l=some { cls:=.type "list",data:=.seq its.toArray n }) (hf:f its.toArray=its'.toArray) (hv:Vals ys its') (hz:ys.length<=sizeLine) :
  Inv X pins σ (upd H l (.lst ys)) { s with heap:=s.heap.update l (Obj.mapSeq f),toks:=t' }:=by
 have q:=PySem.IsL.update e f
 rw [hf] at q
 refine I.write (x:=l) (e:=l) (by rw [hH];exact trivial) (.inl rfl) (fun b' u hb hu=>(Heap.get?_update_other s.heap (Obj.mapSeq f) (Ne.symm hb)).trans hu) ⟨_,q⟩ ?_
 exact ⟨hz,its',_,hv,q⟩
theorem Inv.lnew{its:List Value}{t':Nat}(I:Inv X pins σ H s)(hv:Vals ys its)(hz:ys.length<=sizeLine) :
  Inv X pins σ (upd H s.heap.objs.size (.lst ys)) { s with heap:=s.heap.push { cls:=.type "list",data:=.seq its.toArray },toks:=t' } :=
 I.laid (fun _ _ q=>Heap.get?_push_of_some _ q) (Nat.le_refl _) ⟨hz,its,0,hv,Heap.get?_push_size _ rfl⟩
theorem Inv.fresh(I:Inv X pins σ H s):H s.heap.objs.size=none:=I.hok.fresh (Nat.le_refl _)
theorem Inv.lstM(I:Inv X pins σ H s)(hH:H l=some (.lst xs)):xs.length<=sizeLine/\∃ (its:List Value) (n:Nat),Vals xs its/\xs.length=its.length/\s.heap.get? l=some { cls:=.type "list",data:=.seq its.toArray n }:=by
 obtain ⟨z,its,n,r,e⟩:=I.hok l _ hH
 exact ⟨z,its,n,r,r.length,e⟩
end
section
variable {X:Cx}
def rAppend:V->List V->Hp->VK->Prop:=fun x vs H Q=>∃ l xs y,x = .ref l/\vs=[y]/\H l=some (.lst xs)/\xs.length<sizeLine/\Q .non (upd H l (.lst (xs++[y])))
theorem mt_append:MtM X "list.append" rAppend:=by
 intro pins s σ H x vs v us Q I rx rv h
 obtain ⟨l,xs,y,rfl,rfl,hH,hz,q⟩:=h
 cases rx
 obtain ⟨u,rfl,ru⟩:=rv.one
 obtain ⟨z,its,n,r,hl,e⟩:=I.lstM hH
 refine call_meets F.slot_list_append ⟨_,e,rfl⟩ F.entry_list_append (F.args_list_append_2 _ _) (PySem.list_append l its.toArray n u (by rw [List.size_toArray];lia)) ⟨e,?_⟩
 refine ⟨.non,_,I.lset (its':=its++[u]) hH e (by simp) (r.append (.cons ru .nil)) ?_,rfl,q⟩
 rw [List.length_append,List.length_singleton]
 lia
def rCat:R2:=fun x y H Q=>∃ l b xs zs,x = .ref l/\y = .ref b/\H l=some (.lst xs)/\H b=some (.lst zs)/\xs.length+zs.length<=sizeLine/\∀ p,H p=none->Q (.ref p) (upd H p (.lst (xs++zs)))
theorem op_cat:OpR X (binaryOp .Add) rCat:=by
 intro pins s σ H x y v u Q I rx ry h
 obtain ⟨l,b,xs,zs,rfl,rfl,hH,hB,hz,q⟩:=h
 cases rx
 cases ry
 obtain ⟨z,its,n,r,hl,e⟩:=I.lstM hH
 obtain ⟨z2,its2,n2,r2,hl2,e2⟩:=I.lstM hB
 refine PySem.P.add_list e e2 ?_ (by rw [List.size_toArray,List.size_toArray];lia)
 have ea:its.toArray++its2.toArray=(its++its2).toArray:=by simp
 rw [ea]
 exact ⟨.ref _,_,I.lnew (t':=s.toks) (r.append r2) (by rw [List.length_append];lia),rfl,q _ I.fresh⟩
end
end L2
namespace L2
open PySem PySem.Spec PyProof.Rows
section
variable {κ:Type} [DecidableEq κ]
def valV(kvs:List (κ×V))(k:κ):Option V:=(kvs.find? fun kv=>decide (kv.1=k)).map (·.2)
def putK(kvs:List (κ×V))(k:κ)(v:V):List (κ×V) :=
 if (kvs.any fun kv=>decide (kv.1=k))=true then kvs.map (fun kv=>if kv.1=k then (kv.1,v) else kv) else kvs++[(k,v)]
theorem x_k{p:κ×V}{r:List (κ×V)}{k:κ}(e:p.1=k):valV (p::r) k=some p.2:=by simp [valV,List.find?_cons,e]
theorem x_j{p:κ×V}{r:List (κ×V)}{k:κ}(e:¬p.1=k):valV (p::r) k=valV r k:=by simp [valV,List.find?_cons,e]
theorem valV_any(k:κ):∀ kvs:List (κ×V),(kvs.any fun kv=>decide (kv.1=k))=(valV kvs k).isSome
 | []=>rfl
 | p::r=>by
  rw [List.any_cons]
  by_cases e:p.1=k
  ·simp only [x_k e,decide_eq_true e,Bool.true_or,Option.isSome_some]
  ·rw [x_j e,decide_eq_false e,Bool.false_or];exact valV_any k r
theorem valV_map(k j:κ)(y:V):∀ kvs:List (κ×V),valV (kvs.map fun kv=>if kv.1=k then (kv.1,y) else kv) j=(valV kvs j).map fun x=>if j=k then y else x
 | []=>rfl
 | p::r=>by
  have ih:=valV_map k j y r
  rw [List.map_cons]
  by_cases h:p.1=k
  ·rw [if_pos h]
   by_cases e:p.1=j
   ·rw [x_k (p:=(p.1,y)) e,x_k e,Option.map_some,if_pos (e.symm.trans h)]
   ·rw [x_j (p:=(p.1,y)) e,x_j e,ih]
  ·rw [if_neg h]
   by_cases e:p.1=j
   ·rw [x_k (p:=p) e,x_k e,Option.map_some,if_neg (fun z=>h (e.trans z))]
   ·rw [x_j (p:=p) e,x_j e,ih]
theorem valV_snoc(k j:κ)(y:V):∀ kvs:List (κ×V),valV kvs k=none->valV (kvs++[(k,y)]) j=if j=k then some y else valV kvs j
 | [],_=>by
  by_cases e:k=j
  ·rw [if_pos e.symm];exact x_k (p:=(k,y)) e
  ·rw [if_neg (fun z=>e z.symm)];exact x_j (p:=(k,y)) e
 | p::r,hn=>by
  rw [List.cons_append]
  have hk:¬p.1=k:=fun z=>by rw [x_k z] at hn;cases hn
  rw [x_j hk] at hn
  have ih:=valV_snoc k j y r hn
  by_cases e:p.1=j
  ·rw [x_k e,x_k e,if_neg (fun z=>hk (e.trans z))]
  ·rw [x_j e,x_j e,ih]
theorem valV_put(kvs:List (κ×V))(k j:κ)(y:V):valV (putK kvs k y) j=if j=k then some y else valV kvs j:=by
 unfold putK
 by_cases a:(kvs.any fun kv=>decide (kv.1=k))=true
 ·rw [if_pos a,valV_map]
  rw [valV_any] at a
  by_cases e:j=k
  ·obtain ⟨x,hx⟩:=Option.isSome_iff_exists.mp a
   rw [if_pos e,e,hx,Option.map_some,if_pos rfl]
  ·rw [if_neg e]
   cases valV kvs j with
   | none=>rfl
   | some x=>rw [Option.map_some,if_neg e]
 ·rw [if_neg a]
  refine valV_snoc k j y kvs ?_
  rw [valV_any] at a
  cases q:valV kvs k with
  | none=>rfl
  | some x=>rw [q] at a;exact (a rfl).elim
theorem x_d(kvs:List (κ×V))(k:κ)(v:V):(putK kvs k v).length<=kvs.length+1:=by
 unfold putK
 split
 ·rw [List.length_map];lia
 ·rw [List.length_append,List.length_cons,List.length_nil];lia
theorem RelO.isSome_eq{o:Option V}{u:Option Value}(r:RelO o u):o.isSome=u.isSome:=by
 cases o with
 | none=>cases u with
  | none=>rfl
  | some _=>exact (show False from r).elim
 | some _=>cases u with
  | none=>exact (show False from r).elim
  | some _=>rfl
theorem KV.val{kvs:List (κ×V)}{vs:List (κ×Value)}(r:KV kvs vs)(k:κ):RelO (valV kvs k) (valueAt vs k):=by
 unfold KV at r
 induction r with
 | nil=>exact True.intro
 | @cons p q ps qs h t ih =>
  obtain ⟨h1,h2⟩:=h
  by_cases e:p.1=k
  ·have e':q.1=k:=h1.symm.trans e
   have b:valueAt (q::qs) k=some q.2:=by simp [valueAt,List.find?_cons,e']
   rw [x_k e,b];exact h2
  ·have e':¬q.1=k:=fun z=>e (h1.trans z)
   have b:valueAt (q::qs) k=valueAt qs k:=by simp [valueAt,List.find?_cons,e']
   rw [x_j e,b];exact ih
theorem KV.any{kvs:List (κ×V)}{vs:List (κ×Value)}(r:KV kvs vs)(k:κ):(kvs.any fun kv=>decide (kv.1=k))=vs.any fun kv=>decide (kv.1=k):=by
 unfold KV at r
 induction r with
 | nil=>rfl
 | cons h t ih=>rw [List.any_cons,List.any_cons,ih,h.1]
theorem KV.repl{kvs:List (κ×V)}{vs:List (κ×Value)}(r:KV kvs vs)(k:κ){y:V}{u:Value}(ry:RelV y u) :
  KV (kvs.map fun kv=>if kv.1=k then (kv.1,y) else kv) (vs.map fun kv=>if kv.1=k then (kv.1,u) else kv):=by
 unfold KV at r ⊢
 induction r with
 | nil=>exact .nil
 | @cons p q ps qs h t ih =>
  rw [List.map_cons,List.map_cons]
  refine .cons ?_ ih
  obtain ⟨h1,h2⟩:=h
  by_cases e:p.1=k
  ·rw [if_pos e,if_pos (h1.symm.trans e)];exact ⟨h1,ry⟩
  ·rw [if_neg e,if_neg (fun z=>e (h1.trans z))];exact ⟨h1,h2⟩
theorem KV.put{kvs:List (κ×V)}{vs:List (κ×Value)}(r:KV kvs vs)(k:κ){y:V}{u:Value}(ry:RelV y u):KV (putK kvs k y) (stored vs k u):=by
 unfold putK stored
 rw [r.any k]
 by_cases e:(vs.any fun kv=>decide (kv.1=k))=true
 ·rw [if_pos e,if_pos e];exact r.repl k ry
 ·rw [if_neg e,if_neg e];exact Paired.snoc r ⟨rfl,ry⟩
theorem KV.keys{kvs:List (κ×V)}{vs:List (κ×Value)}(r:KV kvs vs):kvs.map (·.1)=vs.map (·.1):=by
 unfold KV at r
 induction r with
 | nil=>rfl
 | cons h t ih=>rw [List.map_cons,List.map_cons,ih,h.1]
theorem KV.length{kvs:List (κ×V)}{vs:List (κ×Value)}(r:KV kvs vs):kvs.length=vs.length:=Paired.length r
end
theorem kV_is{P:Program}{w:World}{k:Key}{u:Value}(r:RelV (kV k) u):(mixKind P w).is k u=true:=by
 cases k with
 | inl i=>obtain ⟨t,e⟩:=(show ∃ t,u=Value.int i t from r);subst e;exact mixKind_int P w i t
 | inr x=>obtain ⟨t,e⟩:=(show ∃ t,u=Value.str x t from r);subst e;exact mixKind_str P w x t
theorem items_are{P:Program}{w:World}:∀ {ks:List Key} {us:List Value},Vals (ks.map kV) us->ItemsAre (mixKind P w) ks us
 | [],_,r=>by rw [List.map_nil] at r;cases r;exact .nil
 | k::ks,_,r=>by
  rw [List.map_cons] at r
  cases r with
  | cons h t=>exact .cons (kV_is h) (items_are t)
abbrev KT(H:Hp):List (List Key×V)->List (List Key×Addr×Value)->Prop:=Paired fun p q=>p.1=q.1/\H q.2.1=some (.tup (p.1.map kV))/\RelV p.2 q.2.2
theorem KT.val{H:Hp}{kvs:List (List Key×V)}{xs:List (List Key×Addr×Value)}(r:KT H kvs xs)(k:List Key):RelO (valV kvs k) ((atKey xs k).map (·.2)):=by
 induction r with
 | nil=>exact True.intro
 | @cons p q ps qs h t ih =>
  obtain ⟨h1,_,h2⟩:=h
  by_cases e:p.1=k
  ·have e':q.1=k:=h1.symm.trans e
   have b:atKey (q::qs) k=some q.2:=by simp [atKey,List.find?_cons,e']
   rw [x_k e,b];exact h2
  ·have e':¬q.1=k:=fun z=>e (h1.trans z)
   have b:atKey (q::qs) k=atKey qs k:=by simp [atKey,List.find?_cons,e']
   rw [x_j e,b];exact ih
theorem KT.repl{H:Hp}{kvs:List (List Key×V)}{xs:List (List Key×Addr×Value)}(r:KT H kvs xs)(k:List Key){y:V}{u:Value}(ry:RelV y u) :
  KT H (kvs.map fun kv=>if kv.1=k then (kv.1,y) else kv) (xs.map (putAt k u)):=by
 induction r with
 | nil=>exact .nil
 | @cons p q ps qs h t ih =>
  rw [List.map_cons,List.map_cons]
  refine .cons ?_ ih
  obtain ⟨h1,h2,h3⟩:=h
  unfold putAt
  by_cases e:p.1=k
  ·rw [if_pos e,if_pos (h1.symm.trans e)];exact ⟨h1,h2,ry⟩
  ·rw [if_neg e,if_neg (fun z=>e (h1.trans z))];exact ⟨h1,h2,h3⟩
theorem KT.put{H:Hp}{kvs:List (List Key×V)}{xs:List (List Key×Addr×Value)}(r:KT H kvs xs)(k:List Key){b:Addr}{y:V}{u:Value}(hb:H b=some (.tup (k.map kV)))(ry:RelV y u) :
  KT H (putK kvs k y) (storedH xs k b u):=by
 have e:(kvs.any fun kv=>decide (kv.1=k))=(atKey xs k).isSome:=by
  rw [valV_any,(r.val k).isSome_eq,Option.isSome_map]
 unfold putK storedH
 rw [e]
 by_cases q:(atKey xs k).isSome=true
 ·rw [if_pos q,if_pos q];exact r.repl k ry
 ·rw [if_neg q,if_neg q];exact Paired.snoc r ⟨rfl,hb,ry⟩
theorem KT.keeps{H H':Hp}{kvs:List (List Key×V)}{xs:List (List Key×Addr×Value)}(r:KT H kvs xs)(ht:∀ b ys,H b=some (.tup ys)->H' b=some (.tup ys)):KT H' kvs xs :=
 Paired.mapP r fun _ _ z=>⟨z.1,ht _ _ z.2.1,z.2.2⟩
section
variable {P:Program} {w:World} {H:Hp} {h:Heap} {a:Addr}
theorem rd_of{u:HO}(ok:HOk P w H h)(e:Rd H a u):ObjOk P w H h a u:=e.ok ok
theorem dk_rd{kvs:List (Key×V)}(ok:HOk P w H h)(e:Rd H a (.dK kvs)):kvs.length<=sizeLine/\(a == sysModules)=false/\∃ vs,KV kvs vs/\h.DictOf (mixKind P w) a vs :=
 show ObjOk P w H h a (.dK kvs) from rd_of ok e
theorem dk_of{kvs:List (Key×V)}(ok:HOk P w H h)(e:H a=some (.dK kvs)):kvs.length<=sizeLine/\(a == sysModules)=false/\∃ vs,KV kvs vs/\h.DictOf (mixKind P w) a vs:=dk_rd ok (.inl e)
theorem key_of{ks:List Key}(ok:HOk P w H h)(e:H a=some (.tup (ks.map kV))):(tupleKind (mixKind P w)).is h ks a:=by
 obtain ⟨_,its,r,o,h1,h2,n,h3⟩:=(show ObjOk P w H h a (.tup (ks.map kV)) from ok a _ e)
 exact ⟨o,its.toArray,n,h1,h2,h3,by simpa using items_are r⟩
theorem dt_rd{kvs:List (List Key×V)}(ok:HOk P w H h)(e:Rd H a (.dT kvs)):kvs.length<=sizeLine/\(a == sysModules)=false /\
  ∃ xs,KT H kvs xs/\h.DictOfH (tupleKind (mixKind P w)) a xs:=by
 obtain ⟨z,y,xs,r,o,es,ep,h1,h2,h3,h4,h5⟩:=(show ObjOk P w H h a (.dT kvs) from rd_of ok e)
 refine ⟨z,y,xs,r,o,es,ep,h1,h2,h3,h4,fun x hx=>?_,h5⟩
 have all:∀ {l:List (List Key×V)} {m:List (List Key×Addr×Value)},KT H l m->∀ x∈m,(tupleKind (mixKind P w)).is h x.1 x.2.1:=by
  intro l m q
  induction q with
  | nil=>intro x hx;exact nomatch hx
  | @cons p q ps qs hq t ih =>
   intro x hx
   rcases List.mem_cons.mp hx with e | hx
   ·subst e
    exact key_of ok (by rw [<-hq.1];exact hq.2.1)
   ·exact ih x hx
 exact all r x hx
theorem dt_of{kvs:List (List Key×V)}(ok:HOk P w H h)(e:H a=some (.dT kvs)):kvs.length<=sizeLine/\(a == sysModules)=false /\
  ∃ xs,KT H kvs xs/\h.DictOfH (tupleKind (mixKind P w)) a xs:=dt_rd ok (.inl e)
end
def DGet(H:Hp)(a:Addr)(y:V)(r:Option V):Prop :=
 (∃ kvs k,Rd H a (.dK kvs)/\y=kV k/\r=valV kvs k)\/∃ kvs k b,Rd H a (.dT kvs)/\y = .ref b/\H b=some (.tup (k.map kV))/\r=valV kvs k
def DPut(H:Hp)(a:Addr)(y v:V)(H':Hp):Prop :=
 (∃ kvs k,H a=some (.dK kvs)/\y=kV k/\kvs.length<sizeLine/\H'=upd H a (.dK (putK kvs k v))) \/
 ∃ kvs k b,H a=some (.dT kvs)/\y = .ref b/\H b=some (.tup (k.map kV))/\kvs.length<sizeLine/\H'=upd H a (.dT (putK kvs k v))
theorem DGet.k{H:Hp}{a:Addr}{kvs:List (Key×V)}{k:Key}(e:H a=some (.dK kvs)):DGet H a (kV k) (valV kvs k):=.inl ⟨kvs,k,.inl e,rfl,rfl⟩
theorem DPut.k{H:Hp}{a:Addr}{kvs:List (Key×V)}{k:Key}{v:V}(e:H a=some (.dK kvs))(hl:kvs.length<sizeLine):DPut H a (kV k) v (upd H a (.dK (putK kvs k v))):=.inl ⟨kvs,k,e,rfl,hl,rfl⟩
section
variable {X:Cx} {pins:List (Addr×Obj)} {σ:St} {H:Hp} {s:Shared} {a:Addr} {y v:V} {u r:Value} {o:Option V} {A:Around} {E:Value->Shared->Prop}
theorem Inv.big(I:Inv X pins σ H s):sysModules<s.heap.objs.size:=by
 have h:mainGlobals<s.heap.objs.size:=(I.mod.glob.keeps I.bk).lt
 exact Nat.lt_trans (by decide) h
theorem d_getItem{Q:Value->Shared->Prop}(hu:A.units+1<cLine)(I:Inv X pins σ H s)(g:DGet H a y (some v))(ry:RelV y u)(h:∀ w' s',Inv X pins σ H s'->RelV v w'->Q w' s') :
  wpAny (model X.prog X.w) A (getItem (.ref a) u) Q E s:=by
 rcases g with ⟨kvs,k,e,ey,l⟩ | ⟨kvs,k,b,e,ey,eb,l⟩
 ·subst ey
  obtain ⟨z,hd,vs,rel,dd⟩:=dk_rd I.hok e
  obtain ⟨w',hw,rw'⟩:=RelO.some_of (v:=v) (o:=valueAt vs k) (by rw [l];exact rel.val k)
  exact wpAny_getItem_of (kV_is ry) dd.mapOf hw (h w' _ (I.tok _) rw')
 ·subst ey
  cases (show u=Value.ref b from ry)
  obtain ⟨z,hd,xs,rel,dd⟩:=dt_rd I.hok e
  obtain ⟨w',hw,rw'⟩:=RelO.some_of (v:=v) (o:=(atKey xs k).map (·.2)) (by rw [l];exact rel.val k)
  obtain ⟨p,hp,hp2⟩:=Option.map_eq_some_iff.mp hw
  refine wpAny_getItem_heap (tupleKind_room_in1 hu) (key_of I.hok eb) dd hp ?_
  rw [hp2]
  exact h w' _ (I.tok _) rw'
theorem d_in{Q:Value->Shared->Prop}(hu:A.units+1<cLine)(I:Inv X pins σ H s)(g:DGet H a y o)(ry:RelV y u)(h:∀ s',Inv X pins σ H s'->Q (.bool o.isSome) s') :
  wpAny (model X.prog X.w) A (compareOp .In u (.ref a)) Q E s:=by
 rcases g with ⟨kvs,k,e,ey,l⟩ | ⟨kvs,k,b,e,ey,eb,l⟩
 ·subst ey
  obtain ⟨z,hd,vs,rel,dd⟩:=dk_rd I.hok e
  refine wpAny_in_of (kV_is ry) hd dd.mapOf ?_
  rw [<-(rel.val k).isSome_eq,<-l]
  exact h _ (I.tok _)
 ·subst ey
  cases (show u=Value.ref b from ry)
  obtain ⟨z,hd,xs,rel,dd⟩:=dt_rd I.hok e
  refine wpAny_in_heap (tupleKind_room_in1 hu) (key_of I.hok eb) hd dd ?_
  have q:=(rel.val k).isSome_eq
  rw [Option.isSome_map] at q
  rw [<-q,<-l]
  exact h _ (I.tok _)
theorem d_write{h':Heap}{t':Nat}{ob:HO}(I:Inv X pins σ H s)(mu:Mut (H a))(hs:Heap.SameBut a s.heap h')(he:∃ q,h'.get? a=some q)(new:ObjOk X.prog X.w (upd H a ob) h' a ob) :
  Inv X pins σ (upd H a ob) { s with heap:=h',toks:=t' } :=
 I.write (x:=a) (e:=a) mu (.inl rfl) (fun b q hb z=>(hs.2 b hb).trans z) he new
theorem dk_new{P:Program}{w:World}{H':Hp}{h':Heap}{kvs:List (Key×V)}{vs:List (Key×Value)}(z:kvs.length<=sizeLine)(hd:(a == sysModules)=false)(rel:KV kvs vs)(dd:h'.DictOf (mixKind P w) a vs) :
  ObjOk P w H' h' a (.dK kvs):=⟨z,hd,vs,rel,dd⟩
theorem d_setItem{H':Hp}{Q:Unit->Shared->Prop}(hu:A.units+1<cLine)(I:Inv X pins σ H s)(g:DPut H a y v H')(ry:RelV y u)(rv:RelV v r)(h:∀ s',Inv X pins σ H' s'->Q () s') :
  wpAny (model X.prog X.w) A (setItem (.ref a) u r) Q E s:=by
 rcases g with ⟨kvs,k,e,ey,l,eH⟩ | ⟨kvs,k,b,e,ey,eb,l,eH⟩
 ·subst ey eH
  obtain ⟨z,hd,vs,rel,dd⟩:=dk_of I.hok e
  have hz:vs.length<=sizeLine:=by rw [<-rel.length];exact z
  have hl:(putK kvs k v).length<=sizeLine:=by have:=x_d kvs k v;lia
  refine wpAny_setItem_pairs (hsz:=hz) (kV_is ry) dd fun h' dd' hs=>h _ ?_
  have he:∃ q,h'.get? a=some q:=let ⟨q,_,_,hq,_⟩:=dd';⟨q,hq⟩
  exact d_write I (by rw [e];exact True.intro) hs he (dk_new hl hd (rel.put k rv) dd')
 ·subst ey eH
  cases (show u=Value.ref b from ry)
  obtain ⟨z,hd,xs,rel,dd⟩:=dt_of I.hok e
  have hz:xs.length<=sizeLine:=by rw [<-Paired.length rel];exact z
  have hl:(putK kvs k v).length<=sizeLine:=by have:=x_d kvs k v;lia
  refine wpAny_setItem_heap (hsz:=hz) (tupleKind_room_in1 hu) (key_of I.hok eb) dd fun h' dd' hs=>h _ ?_
  obtain ⟨q,es,ep,hq,h2,h3,h4,_,h5⟩:=dd'
  refine d_write I (by rw [e];exact True.intro) hs ⟨q,hq⟩ ⟨hl,hd,_,(rel.put k eb rv).keeps fun c ys ec=>?_,q,es,ep,hq,h2,h3,h4,h5⟩
  rw [z_s (ne_of ec e (fun z=>nomatch z))]
  exact ec
end
section
variable {X:Cx} {pins:List (Addr×Obj)} {σ:St} {H:Hp} {s:Shared} {a:Addr} {kvs:List (Key×V)} {k:Key} {u:Value} {A:Around} {E:Value->Shared->Prop}
theorem d_len{Q:Value->Shared->Prop}(I:Inv X pins σ H s)(e:Rd H a (.dK kvs))(h:∀ t s',Inv X pins σ H s'->Q (.int kvs.length t) s'):wpAny (model X.prog X.w) A (call (.builtin "len") [.ref a]) Q E s:=by
 obtain ⟨z,hd,vs,rel,dd⟩:=dk_rd I.hok e
 refine call_len_dict hd dd (by rw [<-rel.length];rw [sizeLine_eq] at z;lia) ?_
 rw [<-rel.length]
 exact h _ _ (I.tok _)
end
def NoSl(i:Expr):Prop:=∀ ov iv,subscripted i false ov iv=operate [ov,iv] (getItem ov iv)
theorem subD_of{prog:Program}{w:World}{A:Around}{E:Value->Shared->Prop}{s:Shared}{env:Env}{value slice:Expr}{pos:Pos}{T id:String}{Q:Value->Shared->Prop}
  (hl:typeLookup (.type T) "__getitem__" = pure (some (.builtin id))) (hs:NoSl slice)
  (h:wpAny (model prog w) A (eval value env) (fun o s₁=>wpAny (model prog w) A (eval slice env) (fun i s₂=>s₂.TypeIs o T/\wpAny (model prog w) A (getItem o i) Q E s₂) E s₁) E s) :
  wpAny (model prog w) A (eval (.Subscript value slice pos) env) Q E s:=by
 refine Subscript_ (wpAny_mono h (fun o s₁ h₁=>wpAny_mono h₁ (fun i s₂ h₂=>?_) fun _ _ x=>x) fun _ _ x=>x)
 obtain ⟨hT,h₂⟩:=h₂
 unfold subscriptTail
 refine wpAny_bind ?_
 rw [getitemInPython_of_ne hT.not_modules]
 refine wpAny_bind (wpAny_specialOf hT hl ?_)
 have fin:wpAny (model prog w) A (subscripted slice false o i) (fun r s₃=>wpAny (model prog w) A (letTemporaryGo value o r >>= fun _=>pure r) Q E s₃) E s₂:=by
  rw [hs o i]
  exact wpAny_operating (wpAny_mono h₂ (fun r s₃ h₃=>wpAny_bind (wpAny_letTemporaryGo (wpAny_pure h₃))) fun _ _ x=>x)
 first
  | exact wpAny_pure (wpAny_bind fin)
  | exact wpAny_bind (wpAny_pure (wpAny_bind fin))
  | exact wpAny_bind fin
theorem dict_typeIs{X:Cx}{pins:List (Addr×Obj)}{σ:St}{H:Hp}{s:Shared}{a:Addr}{y:V}{o:Option V}(I:Inv X pins σ H s)(g:DGet H a y o):s.TypeIs (.ref a) "dict" := by
 rcases g with ⟨kvs,k,e,_,_⟩ | ⟨kvs,k,b,e,_,_,_⟩
 ·obtain ⟨_,_,vs,_,dd⟩:=dk_rd I.hok e
  exact dd.typeIs
 ·obtain ⟨_,_,xs,_,dd⟩:=dt_rd I.hok e
  exact dd.typeIs
def tDGet(td ty:TE):TE:=fun σ H Q=>td σ H fun x H1=>ty σ H1 fun y H2=>∃ a v,x = .ref a/\DGet H2 a y (some v)/\Q v H2
def tDIn(ty td:TE):TE:=fun σ H Q=>ty σ H fun y H1=>td σ H1 fun x H2=>∃ a o,x = .ref a/\DGet H2 a y o/\Q (.bl o.isSome) H2
def sDPut(td ty tv:TE):TS:=fun D σ H=>tv σ H fun v H1=>td σ H1 fun x H2=>ty σ H2 fun y H3=>∃ a H4,x = .ref a/\DPut H3 a y v H4/\D.nx σ H4
section
variable {X:Cx} {o i e value:Expr} {pos pos' tpos:Pos} {td ty tv:TE}
theorem pe_dget(hu:X.A.units+1<cLine)(ho:PE X o td)(hi:PE X i ty)(hs:NoSl i):PE X (.Subscript o i pos) (tDGet td ty):=by
 intro pins s σ H Q I h
 refine subD_of PySem.F.slot_dict_getitem.lookup hs (thn (ho pins s σ H _ I h) fun u s1 ⟨x,H1,I1,rx,q1⟩=>thn (hi pins s1 σ H1 _ I1 q1) fun iv s2 ⟨y,H2,I2,ry,a,v,ex,g,q2⟩=>?_)
 subst ex
 obtain rfl:u=Value.ref a:=rx
 exact ⟨dict_typeIs I2 g,d_getItem hu I2 g ry fun w' s3 I3 rw'=>⟨v,H2,I3,rw',q2⟩⟩
theorem pc_din(hu:X.A.units+1<cLine)(hi:PE X i ty)(ho:PE X o td):PC X .In i o (tDIn ty td):=by
 intro pins s σ H Q I h
 refine thn (hi pins s σ H _ I h) fun iv s1 ⟨y,H1,I1,ry,q1⟩=>thn (ho pins s1 σ H1 _ I1 q1) fun u s2 ⟨x,H2,I2,rx,a,ov,ex,g,q2⟩=>?_
 subst ex
 obtain rfl:u=Value.ref a:=rx
 exact d_in hu I2 g ry fun s3 I3=>⟨.bl ov.isSome,H2,I3,rfl,q2⟩
theorem ps_dput(hu:X.A.units+1<cLine)(ho:PE X o td)(hi:PE X i ty)(hv:PE X value tv)(hs:swapsWith value (some (.Subscript o i pos')) pos.line X.env=pure false) :
  PS X (.Assign [.Subscript o i pos'] value pos) (sDPut td ty tv):=by
 intro pins s σ H D I h
 refine wpAny_Assign_Subscript (thn (hv pins s σ H _ I h) fun r s1 ⟨v,H1,I1,rv,q1⟩=>thn (ho pins s1 σ H1 _ I1 q1) fun u s2 ⟨x,H2,I2,rx,q2⟩=>thn (hi pins s2 σ H2 _ I2 q2) fun iv s3 ⟨y,H3,I3,ry,a,H4,ex,g,q3⟩=>?_) hs
 subst ex
 obtain rfl:u=Value.ref a:=rx
 exact d_setItem hu I3 g ry rv fun s4 I4=>⟨σ,H4,I4,q3⟩
end
theorem dk_empty{P:Program}{w:World}{H:Hp}(h:Heap)(hb:sysModules<h.objs.size):ObjOk P w H (h.push { cls:=.type "dict",data:=.dict #[] }) h.objs.size (.dK []) :=
 ⟨Nat.zero_le _,beq_eq_false_iff_ne.mpr (Ne.symm (Nat.ne_of_lt hb)),[],.nil,Heap.DictOf.new h⟩
def tDNewK:TE:=fun _ H Q=>∀ p,H p=none->Q (.ref p) (upd H p (.dK []))
section
variable {X:Cx} {pos:Pos}
theorem pe_dnewK:PE X (.Dict [] [] pos) tDNewK:=fun pins s σ H Q I h =>
 wpAny_Dict_empty ⟨.ref s.heap.objs.size,_,I.laid (a:=s.heap.objs.size) (o:=.dK []) (t':=s.toks) (fun _ _ q=>Heap.get?_push_of_some _ q) (Nat.le_refl _) (dk_empty s.heap I.big),rfl,h _ (I.hok.fresh (Nat.le_refl _))⟩
end
section
variable {X:Cx} {pins:List (Addr×Obj)} {σ:St} {H:Hp} {s:Shared} {a:Addr} {kvs:List (Key×V)} {A:Around} {E:Value->Shared->Prop}
theorem d_copyOf{Q:Value->Shared->Prop}(I:Inv X pins σ H s)(e:Rd H a (.dK kvs))(h:∀ p s',H p=none->Inv X pins σ (upd H p (.dK kvs)) s'->Q (.ref p) s'):wpAny (model X.prog X.w) A (call (.type "dict") [.ref a]) Q E s:=by
 obtain ⟨z,hd,vs,rel,dd⟩:=dk_rd I.hok e
 refine kt_call_dict hd dd (by rw [<-rel.length];exact z) fun h' dd' hs=>?_
 refine h _ _ (I.hok.fresh (Nat.le_refl _)) (I.laid (a:=s.heap.objs.size) (o:=.dK kvs) (t':=s.toks) (fun b q hq=>?_) (Nat.le_refl _) (dk_new z (beq_eq_false_iff_ne.mpr (Ne.symm (Nat.ne_of_lt I.big))) rel dd'))
 exact (hs.2 b (Nat.ne_of_lt (Heap.lt_size hq))).trans (Heap.get?_push_of_some _ hq)
end
end L2
namespace Att
open PySem PySem.W PySem.Calls PyProof.Rows
theorem ints_of_wellAll{P:Params}{h:Heap}:∀ (ns:List Int) (vs:List Value),WellAll P h vs (ns.map WData.int)->IntsAre vs ns:=by
 intro ns
 induction ns with
 | nil =>
  intro vs w
  rw [List.map_nil] at w
  cases w
  exact .nil
 | cons n ns ih =>
  intro vs w
  rw [List.map_cons] at w
  cases w with
  | cons a b =>
   cases a
   exact .cons _ _ (ih _ b)
theorem script_of{l:OpenLaw}{n:Nat}(hn:l.most=some n){P:Params}{h:Heap}{args:List WData}{vals:List Value}
  (hpre:l.row.toRowW.claim.pre args=true) (hwl:WellAll P h vals args) :
  ∃ a vs ns,vals=[Value.ref a]/\args=[WData.list (ns.map WData.int)]/\h.get? a=some { cls:=.type "list",data:=.seq vs.toArray }/\IntsAre vs ns/\ns.length<=n:=by
 have hsh:WShape.hasAll [] args [.list .int]=true:=(pre_splitW hpre).1
 have hc:l.pre.holds [] { args:=args }=true:=(pre_splitW hpre).2
 obtain ⟨d,r,rfl,h1,h2⟩:=hasAllW_cons hsh
 obtain rfl:=hasAllW_nil h2
 obtain ⟨xs,rfl,h3⟩:=hasW_list h1
 obtain ⟨ns,rfl⟩:=items_int h3
 have hlen:ns.length<=n:=by
  unfold OpenLaw.pre at hc
  have h4:(WTm.not (.lt (.lit (.int (n:Int))) (.len (.arg 0)))).holds [] { args:=[.list (ns.map .int)] }=true:=by
   have h4:=(holds_andW hc).1
   rw [hn] at h4
   exact h4
  have h5:=condW_of h4 (w_not (w_lt w_lit (w_len_list (w_arg rfl))))
  rw [List.length_map] at h5
  refine Nat.le_of_not_lt fun q=>?_
  have q':(n:Int)<((ns.length:Nat):Int):=by lia
  first
   | (rw [decide_eq_true q'] at h5;exact absurd h5 (by decide))
   | (simp at h5;lia)
 cases hwl with
 | cons w1 w2 =>
  cases w2
  cases w1 with
  | list ho hall=>exact ⟨_,_,ns,rfl,rfl,ho,ints_of_wellAll ns _ hall,hlen⟩
theorem post_true(l:OpenLaw)(args:List WData):l.row.toRowW.claim.post args (.bool true) args=true :=
 postW_of (r:=l.row.toRowW) (X:=(true == true))
  (show WShape.has [] (.bool true) .bool=true by first | rfl | decide | simp [WShape.has,WShape.arms,WShape.armsAll])
  (show (WTm.eq .res (.lit (.bool true))).value [] { args:=args,res:=some (.bool true),after:=args }=some (.bool (true == true)) from w_eq_bool (w_res rfl) w_lit) rfl
theorem attach_call{l:OpenLaw}{n:Nat}{q:Program}{loose:List Str}{XP:(Str->Option Value)->Heap->Prop}{YP:World->Heap->Prop}{d:DefRec}
  (hn:l.most=some n) (hdf:d.params.defaults=[])
  (call:∀ (w:World) (s₀ s₁:Shared) (mg mb:Str->Option Value) (fa:Addr) (o:Obj) (pm cd doc:Value) (a:Addr) (vs:List Value) (ns:List Int),
   Ground q loose [] XP w s₀ mg mb s₁.heap->YP w s₁.heap ->
   s₁.heap.get? fa=some o->o.data = .func (docDef d.name d.params d.body d.scope pm cd doc)->s₁.heap.CodeRec cd d.name->mg d.name=some (.ref fa) ->
   s₁.heap.get? a=some { cls:=.type "list",data:=.seq vs.toArray }->IntsAre vs ns->ns.length<=n->s₁.gens = #[] ->
   codeAny (model l.prog w) callerA (.call (.ref fa) ⟨[.ref a],[]⟩) (fun r s'=>r = .ok (.ret (.bool true))/\OldK s₁.heap s'.heap/\s'.os=s₁.os/\AllBare s'.gens) s₁) :
  WalkO q loose XP YP l.row.toRowW d [] (fun f vs=>PySem.call f vs):=by
 intro w s₀ s₁ mg mb G Y fa o pm cd doc dV kV ho hd hcd hD hmg hg args vals as hpre hlay hrd hwl hlo
 obtain rfl:dV = .none:=Dflts.none hD hdf
 obtain rfl:kV = .none:=Dflts.noKw hD
 obtain ⟨a,vs,ns,rfl,rfl,hobj,hints,hlen⟩:=script_of hn hpre hwl
 refine enter_call (codeAny_mono (call w s₀ s₁ mg mb fa o pm cd doc a vs ns G Y ho (fd_plain hd) hcd hmg hobj hints hlen hg) fun r s' hq=>?_)
 obtain ⟨rfl,h2,h3,h4⟩:=hq
 exact ⟨.inl ⟨.bool true,.bool true,[],rfl,fun _=>rfl,.bool true,post_true l _,fun _=>⟨List.Pairwise.nil,fun _ hm=>(nomatch hm)⟩⟩,h2,h3,h4⟩
end Att
namespace L2
open PySem PySem.Spec PyProof.Rows
theorem vals_ints:∀ {vs:List Value} {ns:List Int},IntsAre vs ns->Vals (ns.map V.int) vs
 | _,_,.nil=>.nil
 | _,_,.cons n t h=>.cons ⟨t,rfl⟩ (vals_ints h)
def Only(H:Hp):Prop:=∀ b,H b=none\/∃ o xs,H b=some (.frz o (.lst xs))
theorem law_call{P:Program}{w:World}{K:PySem.W.Frag}{mg mb:Str->Option Value}{CX:CXT}{k:Nat}{fa a:Addr}{fd:FuncData}{x:Str}{sp:Sp}{s₁:Shared}{vs:List Value}{ns:List Int}
  (KX:K.In s₁.heap) (hns:s₁.heap.Ns mainGlobals mg) (hb:s₁.heap.Ns builtinsNs mb) (hbb:∀ x:Str,x ≠ "__name__" -> mb x=bootBuiltins x) (hlim:s₁.heap.NoLimit) (hg:s₁.gens = #[])
  (ha:s₁.heap.get? a=some { cls:=.type "list",data:=.seq vs.toArray }) (hi:IntsAre vs ns) (hl:ns.length<=sizeLine) (hr:Room k callerA)
  (F:∀ base:Heap,K.In base->base.Ns mainGlobals mg->FnOk P w K mg base CX k fa fd [x] sp) (hbind:∀ (s:Shared) (u:Value),BindsTo s fd ⟨[u],[]⟩ [(x,u)])
  (hsp:∀ H:Hp,Only H->SqL K H a (ns.map V.int)->sp [.ref a] H (fun v _=>v = .bl true) fun _ _ _=>False)
  (hCX:∀ H e s',CX [] H s₁ (fun _ _ _=>False) e s'->False) :
  codeAny (model P w) callerA (.call (.ref fa) ⟨[.ref a],[]⟩) (fun r s'=>r = .ok (.ret (.bool true))/\OldK s₁.heap s'.heap/\s'.os=s₁.os/\AllBare s'.gens) s₁:=by
 have rv:=vals_ints hi
 have lenV:=hi.length
 have core:∀ H:Hp,Only H->SqL K H a (ns.map V.int)->HOk P w H s₁.heap->(∀ b,H b≠none->b=a)->(H a≠none->K.lookup a=none) ->
   codeAny (model P w) callerA (.call (.ref fa) ⟨[.ref a],[]⟩) (fun r s'=>r = .ok (.ret (.bool true))/\OldK s₁.heap s'.heap/\s'.os=s₁.os/\AllBare s'.gens) s₁:=by
  intro H hO hS hok hA hK
  have base_of:∀ {b:Addr} {o:Obj},s₁.heap.get? b=some o->H b=none->(hidT s₁.heap H).get? b=some o:=fun e n=>hidT_get e n
  have noA:∀ {b:Addr} {o:Obj} {es:Array DictEntry} {ep:Nat},s₁.heap.get? b=some o->o.data = .dict es ep->H b=none:=fun {b o es ep} e d=>by
   cases q:H b with
   | none=>rfl
   | some u =>
    have e':b=a:=hA b (by rw [q];simp)
    subst e'
    rw [ha] at e;cases e
    have d':Data.seq vs.toArray _=Data.dict es ep:=d
    cases d'
  have nsK:∀ {b:Addr} {m:Str->Option Value},s₁.heap.Ns b m->(hidT s₁.heap H).Ns b m:=fun {b m} ⟨o,es,ep,e,d,r⟩=>⟨o,es,ep,base_of e (noA e d),d,r⟩
  have hKb:K.In (hidT s₁.heap H):=fun b o e=>base_of (KX b o e) (by
   cases q:H b with
   | none=>rfl
   | some u =>
    have e':b=a:=hA b (by rw [q];simp)
    subst e'
    rw [hK (by rw [q];simp)] at e;cases e)
  have hM:Mod K mg (hidT s₁.heap H):=⟨hKb,nsK hns,⟨mb,nsK hb,hbb⟩,let ⟨mc,h1,h2⟩:=hlim;⟨mc,nsK h1,h2⟩⟩
  have e0:Env0 P w K mg (hidT s₁.heap H) callerA [] s₁ H:=⟨rfl,rfl,hM,fun b o e=>of_hidT e,Nat.le_of_eq (hidT_size _ _),trivial,fun b hb=>absurd (show b∈([]:List Addr) from hb) (by simp),hok,.of_eq hg⟩
  refine codeAny_mono ((F _ hKb (nsK hns)).run callerA [] s₁ H ⟨[.ref a],[]⟩ [.ref a] [.ref a] _ _ hr e0 (hbind s₁ (.ref a)) (.cons rfl .nil) (hsp H hO hS)) fun r s' h=>?_
  cases r with
  | error e=>exact (hCX H e s' h).elim
  | ok fl =>
   cases fl with
   | next=>exact False.elim h
   | brk=>exact False.elim h
   | cont=>exact False.elim h
   | ret u =>
    obtain ⟨v,H',os,bare,un,hok',r',q⟩:=h
    have q':v = .bl true:=q
    subst q'
    obtain rfl:u=Value.bool true:=r'
    refine ⟨rfl,OldK.of_keep fun b o e=>?_,os,bare⟩
    cases q:H b with
    | none=>exact un.keep b o e q (by intro z;exact absurd (show b∈([]:List Addr) from z) (by simp)) (by simp)
    | some u =>
     rcases hO b with z | ⟨ob,xs,z⟩
     ·rw [q] at z;cases z
     ·have z2:=un.frzs b ob _ z
      obtain ⟨e1,_⟩:=hok b _ z
      obtain ⟨e2,_⟩:=hok' b _ z2
      rw [e] at e1;cases e1
      exact e2
 cases hk:K.lookup a with
 | some o =>
  have e:=KX a o hk
  rw [ha] at e
  cases e
  refine core (fun _=>none) (fun _=>.inl rfl) (.inr ⟨_,vs.toArray,_,hk,rfl,rfl,rfl,by rw [List.size_toArray,lenV];exact hl,by simpa using rv⟩) (fun b u z=>by have z':(none:Option HO)=some u:=z;cases z') (fun b z=>absurd rfl z) fun z=>absurd rfl z
 | none =>
  refine core (fun b=>if b=a then some (.frz { cls:=.type "list",data:=.seq vs.toArray } (.lst (ns.map V.int))) else none) (fun b=>?_) (.inl (.inr ⟨{ cls:=.type "list",data:=.seq vs.toArray },if_pos rfl⟩)) (fun b u z=>?_) (fun b z=>?_) fun _=>hk
  ·by_cases hb:b=a
   ·exact .inr ⟨_,_,if_pos hb⟩
   ·exact .inl (if_neg hb)
  ·by_cases hb:b=a
   ·have z':=(if_pos hb).symm.trans z
    cases z'
    subst hb
    exact ⟨ha,by rw [List.length_map];exact hl,vs,_,rv,ha⟩
   ·have z':=(if_neg hb).symm.trans z
    cases z'
  ·by_cases hb:b=a
   ·exact hb
   ·exact absurd (if_neg hb) z
theorem walk_of{l:PySem.W.OpenLaw}{n k:Nat}{q:Program}{loose:List Str}{XP:(Str->Option Value)->Heap->Prop}{YP:World->Heap->Prop}{d:DefRec}{K:Params->PySem.W.Frag}{CX:World->CXT}{sp:World->Sp}{x:Str}
  (hn:l.most=some n) (hn2:n<=sizeLine) (hdf:d.params.defaults=[]) (hr:Room k callerA)
  (hY:∀ (w:World) (h:Heap),YP w h->(K w.params).In h)
  (F:∀ (w:World) (mg:Str->Option Value) (fa:Addr) (h:Heap),(K w.params).In h->h.Ns mainGlobals mg->mg d.name=some (.ref fa) ->
   ∃ fd:FuncData,(∀ (s:Shared) (u:Value),BindsTo s fd ⟨[u],[]⟩ [(x,u)]) /\
    ∀ base:Heap,(K w.params).In base->base.Ns mainGlobals mg->FnOk l.prog w (K w.params) mg base (CX w) k fa fd [x] (sp w))
  (hsp:∀ (w:World) (H:Hp) (a:Addr) (ns:List Int),ns.length<=n->Only H->SqL (K w.params) H a (ns.map V.int)->sp w [.ref a] H (fun v _=>v = .bl true) fun _ _ _=>False)
  (hCX:∀ (w:World) (H:Hp) (s:Shared) (e:Value) (s':Shared),CX w [] H s (fun _ _ _=>False) e s'->False) :
  PySem.W.WalkO q loose XP YP l.row.toRowW d [] (fun f vs=>PySem.call f vs):=by
 refine Att.attach_call hn hdf fun w s₀ s₁ mg mb fa o pm cd doc a vs ns G Y ho hd hcd hmg hobj hints hlen hg=>?_
 have KX:=hY w _ Y
 obtain ⟨fd,hb,hF⟩:=F w mg fa _ KX G.T.g hmg
 exact law_call KX G.T.g G.T.b G.T.builtins G.T.nolimit hg hobj hints (Nat.le_trans hlen hn2) hr hF hb (fun H hO hS=>hsp w H a ns hlen hO hS) fun H e s'=>hCX w H s₁ e s'
def inClass(s:Stmt)(j:Nat):Stmt:=match s with
 | .ClassDef _ _ _ body _ _ _ _ _ _ _=>body.getD j (.Pass ⟨0,0,0,0⟩)
 | _=>.Pass ⟨0,0,0,0⟩
def z_k(s:Stmt):Arguments:=match s with
 | .FunctionDef _ a _ _ _ _ _ _ _ _=>a
 | _=>{ posonlyargs:=[],args:=[],vararg:=none,kwonlyargs:=[],kw_defaults:=[],kwarg:=none,defaults:=[] }
def z_j(s:Stmt):List Stmt:=match s with
 | .FunctionDef _ _ b _ _ _ _ _ _ _=>b
 | _=>[]
def z_g(s:Stmt):Scope:=match s with
 | .FunctionDef _ _ _ _ _ _ sc _ _ _=>sc
 | _=>{ kind:=.function,names:=[],isGenerator:=false,isCoroutine:=false }
abbrev CX0:CXT:=fun _ _ _ _ _ _=>False
abbrev E0:XK:=fun _ _ _=>False
theorem pass0{X:Cx}:Passes CX0 X E0:=fun _ _ _ _ _ _ _ h=>h.elim
structure Fun(K:PySem.W.Frag)(x qual:Str)(st:Stmt)(f:Addr)(fd:FuncData):Prop where
 ex:∃ (oc:Value) (od:Option Addr) (kV doc pm:Value) (an:Option Addr) (cdv ct:Value) (osl:Array (Option Value)),
  fd=PySem.W.fnOf x qual (z_k st) (z_j st) (z_g st) .none kV doc pm an cdv ct/\K.lookup f=some ⟨oc,od,.func fd,osl⟩/\PySem.W.codeIn K cdv qual=true
 kp:PySem.W.keepIn K (.ref f)=true
section
variable {P:Program} {w:World} {K:PySem.W.Frag} {mg:Str->Option Value} {base:Heap}
theorem Fun.ok{x qual:Str}{st:Stmt}{f:Addr}{fd:FuncData}{N ps:List Str}{k:Nat}{sp:Sp}(F:Fun K x qual st f fd)(S:FnScope N ps (z_g st))(len:∀ vs H Q E,sp vs H Q E->vs.length=ps.length)
  (hbody:∀ (cdv:Value) (A:Around) (outer:List Env) (s:Shared) (H:Hp) (vs:List V) (Q:VK) (E:XK),Room k (A.deeper (envOfC qual (z_g st) s.heap.objs.size f cdv))->sp vs H Q E ->
   ∃ t,PSs (cxOf CX0 P w K mg base N qual (z_g st) f cdv A outer s H E).nox (z_j st) t/\t { nx:=fun _ H'=>Q .non H',rt:=Q } (start N vs) H):FnOk P w K mg base CX0 (k+1) f fd ps sp:=by
 obtain ⟨oc,od,kV,doc,pm,an,cdv,ct,osl,rfl,lk,hcd⟩:=F.ex
 refine fn_of lk hcd S len fun A outer s H vs Q E hr hsp=>?_
 obtain ⟨t,h,q⟩:=hbody cdv A outer s H vs Q E hr hsp
 exact ⟨t,h.nox,q⟩
theorem Fun.binds{x qual:Str}{st:Stmt}{f:Addr}{fd:FuncData}{ps:List Str}(F:Fun K x qual st f fd)
  (h:∀ (kV doc pm:Value) (an:Option Addr) (cdv ct:Value) (us:List Value),us.length=ps.length->bindArgs (PySem.W.fnOf x qual (z_k st) (z_j st) (z_g st) .none kV doc pm an cdv ct) ⟨us,[]⟩=pure (ps.zip us)):Binds K fd ps []:=by
 obtain ⟨oc,od,kV,doc,pm,an,cdv,ct,osl,rfl,lk,hcd⟩:=F.ex
 exact .all (h kV doc pm an cdv ct)
theorem y_t{x qual:Str}{st:Stmt}{f:Addr}{oc:Value}{od an:Option Addr}{osl:Array (Option Value)}{kV doc pm cdv ct:Value}(l:K.lookup f=some ⟨oc,od,.func (PySem.W.fnOf x qual (z_k st) (z_j st) (z_g st) .none kV doc pm an cdv ct),osl⟩)
  (c:PySem.W.codeIn K cdv qual=true) (k:PySem.W.keepIn K (.ref f)=true):Fun K x qual st f (PySem.W.fnOf x qual (z_k st) (z_j st) (z_g st) .none kV doc pm an cdv ct):=⟨⟨oc,od,kV,doc,pm,an,cdv,ct,osl,rfl,l,c⟩,k⟩
end
theorem hu_of{A:Around}{k:Nat}(hr:Room k A):A.units+1<cLine:=Nat.lt_of_le_of_lt (Nat.add_le_add_left (by decide:1<=64) _) hr.units
section
variable {X:Cx}
theorem pv(i:Nat){x:Str}{pos:Pos}(hN:X.N[i]? = some x:=by rfl)(hv:Vis X.env.scope x:=by first | exact Or.inl rfl | exact Or.inr (Or.inl rfl) | exact Or.inr (Or.inr rfl))(hd:(x == ("__debug__" : Str))=false:=by decide)
  (hcd:(x == ("__classdict__" : Str))=false:=by decide):PE X (.Name x pos) (tVar i):=pe_var hN hv hd hcd
end
theorem iteF{A B:Prop}(h:B):if false=true then A else B:=by
 rw [if_neg Bool.false_ne_true]
 exact h
theorem iteT{A B:Prop}(h:A):if true=true then A else B:=by
 rw [if_pos rfl]
 exact h
theorem ite2{c A B:Prop}[Decidable c](h1:c->A)(h2:¬c->B):if c then A else B:=by
 by_cases h:c
 ·rw [if_pos h]
  exact h1 h
 ·rw [if_neg h]
  exact h2 h
def Same(H H':Hp):Prop:=∀ b o,H b=some o->H' b=some o
theorem Same.refl(H:Hp):Same H H:=fun _ _ h=>h
theorem Same.trans{H H1 H2:Hp}(a:Same H H1)(b:Same H1 H2):Same H H2:=fun c o h=>b c o (a c o h)
theorem Same.free{H H':Hp}(e:Same H H'){l:Addr}(h:H' l=Option.none):H l=Option.none:=by
 cases q:H l with
 | none=>rfl
 | some o =>
  rw [e l o q] at h
  cases h
theorem Same.seq{K:PySem.W.Frag}{H H':Hp}{a:Addr}{xs:List V}(e:Same H H')(h:SqL K H a xs):SqL K H' a xs:=by
 rcases h with (h | ⟨o,h⟩) | h
 ·exact .inl (.inl (e _ _ h))
 ·exact .inl (.inr ⟨o,e _ _ h⟩)
 ·exact .inr h
end L2
namespace L2
open PySem PySem.Spec PyProof.Rows
end L2
namespace L2
open PySem PySem.Spec PyProof.Rows
def clOf(env:Env):List (Str×NameKind)->List (Str×Addr)->List (Str×Addr)
 | [],acc=>acc
 | (n,k)::r,acc=>if (k == NameKind.free)=true then clOf env r ((n,(env.cells.lookup n).getD 0)::acc) else clOf env r acc
theorem x_c{env:Env}{x:Str}:∀ (l:List (Str×NameKind)) (acc:List (Str×Addr)),
  (clOf env l acc).lookup x=if (l.any fun p=>(p.1 == x)&&(p.2 == NameKind.free))=true then some ((env.cells.lookup x).getD 0) else acc.lookup x
 | [],acc=>by simp [clOf]
 | (n,k)::r,acc=>by
  unfold clOf
  by_cases hk:(k == NameKind.free)=true
  ·rw [if_pos hk,x_c r]
   by_cases hr:(r.any fun p=>(p.1 == x)&&(p.2 == NameKind.free))=true
   ·rw [if_pos hr,if_pos]
    rw [List.any_cons,hr,Bool.or_true]
   ·rw [if_neg hr]
    have hr':(r.any fun p=>(p.1 == x)&&(p.2 == NameKind.free))=false:=(Bool.not_eq_true _).mp hr
    rw [List.any_cons,hr',Bool.or_false,hk,Bool.and_true,List.lookup_cons]
    by_cases hn:n=x
    ·subst hn
     simp
    ·have h1:(n == x)=false:=by simpa using hn
     have h2:(x == n)=false:=by simpa using fun z=>hn (Eq.symm z)
     simp [h1,h2]
  ·rw [if_neg hk,x_c r]
   have hk':(k == NameKind.free)=false:=by simpa using hk
   rw [List.any_cons,hk',Bool.and_false,Bool.false_or]
theorem closure_clOf{env:Env}{scope:Scope}(h:∀ n k,(n,k)∈scope.names->(k == NameKind.free)=true->(env.cells.lookup n).isSome=true):closureFor scope env=pure (clOf env scope.names []):=by
 have go:∀ (l:List (Str×NameKind)) (acc:List (Str×Addr)),(∀ n k,(n,k)∈l->(k == NameKind.free)=true->(env.cells.lookup n).isSome=true) ->
   (forIn l acc (fun (x:Str×NameKind) (r:List (Str×Addr))=>match x with
    | (name,kind)=>if (kind == NameKind.free)=true then (do let a <-cellOf env name;pure (ForInStep.yield ((name,a)::r))) else pure (ForInStep.yield r)):Sem (List (Str×Addr)))=pure (clOf env l acc):=by
  intro l
  induction l with
  | nil=>intro acc _;rfl
  | cons p r ih =>
   intro acc hp
   obtain ⟨n,k⟩:=p
   rw [List.forIn_cons]
   unfold clOf
   by_cases hk:(k == NameKind.free)=true
   ·obtain ⟨c,hc⟩:=Option.isSome_iff_exists.mp (hp n k List.mem_cons_self hk)
    have hc1:cellOf env n=pure c:=by simp only [cellOf,hc]
    simp only [hk,if_true,hc1,hc,Option.getD_some]
    have:=ih ((n,c)::acc) (fun n' k' h'=>hp n' k' (List.mem_cons_of_mem _ h'))
    simpa using this
   ·simp only [hk,if_false]
    have:=ih acc (fun n' k' h'=>hp n' k' (List.mem_cons_of_mem _ h'))
    simpa using this
 have:=go scope.names [] h
 simp only [closureFor]
 simpa using this
def compOk(sc out:Scope)(xs:List Str)(cs:List Str):Bool :=
 (sc.kind == .function)&&(out.kind == .function)&&sc.names.all (fun p=>p.2 != NameKind.cell)&&sc.names.all (fun p=>p.2 != NameKind.local || sc.names.lookup p.1 == some .local)&&xs.all (fun x=>sc.names.lookup x == some .local)
  && sc.names.all (fun p=>p.2 != NameKind.free || out.names.lookup p.1 == some .cell)&&cs.all (fun c=>sc.names.lookup c == some .free)
structure CompOk(sc out:Scope)(xs:List Str)(cs:List Str):Prop where
 kind:sc.kind = .function
 okind:out.kind = .function
 cell:∀ y∈sc.names,y.2 ≠ .cell
 names:∀ y∈sc.names,y.2 = .local->sc.names.lookup y.1=some .local
 x:∀ x∈xs,sc.names.lookup x=some .local
 free:∀ n k,(n,k)∈sc.names->k = .free->out.names.lookup n=some .cell
 cs:∀ c∈cs,sc.names.lookup c=some .free
theorem compOk.mk{sc out:Scope}{xs:List Str}{cs:List Str}(h:compOk sc out xs cs=true):CompOk sc out xs cs:=by
 unfold compOk at h
 simp only [Bool.and_eq_true,List.all_eq_true,beq_iff_eq,bne_iff_ne,ne_eq,Bool.or_eq_true] at h
 obtain ⟨⟨⟨⟨⟨⟨h1,h2⟩,h3⟩,h4⟩,h5⟩,h6⟩,h7⟩:=h
 exact ⟨h1,h2,h3,fun y hy hl=>(h4 y hy).resolve_left fun z=>z hl,h5,fun n k hm hk=>(h6 (n,k) hm).resolve_left fun z=>z hk,h7⟩
theorem relabel_free{sc:Scope}{env:Env}{n:Str}(hk:env.scope.kind = .function)(hout:env.scope.names.lookup n=some .cell)(h:sc.names.lookup n=some .free):(relabel sc env).names.lookup n=some .cell:=by
 unfold relabel
 have go:∀ l:List (Str×NameKind),l.lookup n=some .free ->
   (l.map fun (p:Str×NameKind)=>if (p.2 == NameKind.free&&env.scope.kind == .function&&env.kindOf p.1 == some .cell)=true then (p.1,NameKind.cell) else (p.1,p.2)).lookup n=some .cell:=by
  intro l
  induction l with
  | nil=>intro h;simp at h
  | cons p r ih =>
   intro h
   obtain ⟨m,k⟩:=p
   rw [List.lookup_cons] at h
   cases hm:n == m with
   | true =>
    rw [hm] at h
    cases h
    have e:n=m:=by simpa using hm
    subst e
    have hko:env.kindOf n=some .cell:=hout
    rw [List.map_cons]
    simp [hk,hko]
   | false =>
    rw [hm] at h
    rw [List.map_cons]
    by_cases hc:(k == NameKind.free&&env.scope.kind == .function&&env.kindOf m == some .cell)=true
    ·rw [if_pos hc,List.lookup_cons,hm]
     exact ih h
    ·rw [if_neg hc,List.lookup_cons,hm]
     exact ih h
 exact go sc.names h
def cxComp(X:Cx)(xs:List Str)(capt:List Nat)(scope:Scope)(C:Addr)(s:Shared)(H:Hp)(ex:List Addr):Cx :=
 { X with N:=xs++capt.map (fun j=>X.N.getD j ""),s₀:=s,H₀:=H,env:=compEnvC scope (clOf X.env scope.names []) C X.env,outer:=X.stack,ex:=ex,fn:=fun _=>false,pn:=[] }
def PTs(X:Cx)(ifs:List Expr)(t:TT):Prop :=
 ∀ (pins:List (Addr×Obj)) (s:Shared) (σ:St) (H:Hp) (Q:Bool->Hp->Prop),Inv X pins σ H s->t σ H Q ->
  wpAny (model X.prog X.w) X.A (forIn ifs true fun c r=>if r=true then do let ok <-isTrue c X.env (eval c X.env);pure (ForInStep.yield ok) else pure (ForInStep.yield r)) (TP X pins σ Q) X.xe s
def tYes:TT:=fun _ H Q=>Q true H
theorem y_s{X:Cx}:PTs X [] tYes:=fun pins s σ H Q I h=>by
 show wpAny _ _ (pure true) _ _ _
 exact wpAny_pure ⟨H,I,h⟩
theorem pts_one{X:Cx}{c:Expr}{t:TT}(hc:PT X c t):PTs X [c] t:=fun pins s σ H Q I h=>by
 rw [List.forIn_cons]
 simp only [if_true]
 refine wpAny_bind (wpAny_bind (thn (hc pins s σ H Q I h) fun b s1 q=>?_))
 refine wpAny_pure ?_
 show wpAny _ _ (forIn [] b _) _ _ _
 exact wpAny_pure q
theorem compLoop_own{prog:Program}{w:World}{A:Around}{R:Result->Shared->Prop}{s:Shared}{elt target iter:Expr}{ifs:List Expr}{scope:Scope}{pos:Pos}{it acc:Value}{env:Env}(I:Nat->Shared->Prop)
  (turn:∀ n s,I n s->wpAny (model prog w) A (pyNext it) (fun r s₁=>match r with
   | none=>R (.ok .next) s₁
   | some v=>wpAny (model prog w) A (letOwnedTupleGo target it v) (fun _ s₁'=>wpAny (model prog w) A (assign target env v) (fun _ s₂ =>
     wpAny (model prog w) A (forIn ifs true fun c r=>if r=true then do let ok <-isTrue c env (eval c env);pure (ForInStep.yield ok) else pure (ForInStep.yield r)) (fun ok s₃ =>
      if ok=true then wpAny (model prog w) A (eval elt env) (fun x s₄ =>
       wpAny (model prog w) A (call (.builtin "list.append") [acc,x]) (fun _ s₅=>∃ m,m<n/\I m s₅) (notedBy (model prog w) A env fun e s'=>R (.error e) s') s₄) (notedBy (model prog w) A env fun e s'=>R (.error e) s') s₃
      else ∃ m,m<n/\I m s₃) (notedBy (model prog w) A env fun e s'=>R (.error e) s') s₂) (notedBy (model prog w) A env fun e s'=>R (.error e) s') s₁') (notedBy (model prog w) A env fun e s'=>R (.error e) s') s₁) (notedBy (model prog w) A env fun e s'=>R (.error e) s') s)
  (n:Nat) (h:I n s):codeAny (model prog w) A (.compLoop (.ListComp elt [⟨target,iter,ifs,0⟩] scope pos) 0 it acc env) R s:=by
 refine codeAny_loop rfl I (fun n s hI=>?_) n h
 show wpAny _ A ((compTurn (.ListComp elt [⟨target,iter,ifs,0⟩] scope pos) 0 it acc env).onRaise (fun x=>do noteFrame x env;theTreesLotGoes x)) _ _ s
 refine wpAny_noted ?_
 rw [compTurn_list]
 refine wpAny_bind (wpAny_standAt (wpAny_bind (wpAny_mono (turn n s hI) (fun r s₁ h₁=>?_) fun _ _ h'=>h')))
 cases r with
 | none=>exact wpAny_pure h₁
 | some v =>
  refine wpAny_bind (wpAny_mono h₁ (fun _ s₁' h₁'=>?_) fun _ _ h'=>h')
  refine wpAny_bind (wpAny_mono h₁' (fun _ s₂ h₂=>wpAny_bind (wpAny_mono h₂ (fun ok s₃ h₃=>?_) fun _ _ h'=>h')) fun _ _ h'=>h')
  cases ok with
  | false=>exact wpAny_pure ⟨rfl,h₃⟩
  | true =>
   exact wpAny_bind (wpAny_bind (wpAny_mono h₃ (fun x s₄ h₄=>wpAny_bind (wpAny_mono h₄ (fun _ s₅ h₅=>wpAny_pure (wpAny_pure ⟨rfl,h₅⟩)) fun _ _ h'=>h')) fun _ _ h'=>h'))
section
variable {X:Cx} {pins:List (Addr×Obj)} {σ:St} {H H2:Hp} {s s2:Shared} {xs:List Str} {capt:List Nat} {scope:Scope} {fp:List Addr}
abbrev emptyL:Obj:={ cls:=.type "list",dict:=none,data:=.seq ([]:List Value).toArray }
theorem Inv.stk_lt(I:Inv X pins σ H s){b:Addr}(hb:s.heap.objs.size<=b):b∉frs X.stack:=fun z=>by
 rcases List.mem_cons.mp (I.stkSub b z) with e | e
 ·exact absurd (Nat.lt_of_lt_of_le I.lt hb) (by rw [e];exact Nat.lt_irrefl _)
 ·exact I.nofs hb e
theorem comp_cxok(I:Inv X pins σ H2 s2)(ok:CompOk scope X.env.scope xs (capt.map fun j=>X.N.getD j ""))(hf:∀ b∈fp,FpOk X pins H2 b)(hfo:∀ b∈fp,∃ o,s2.heap.get? b=some o){HH:Heap}(eH:HH=s2.heap.push emptyL) :
  (cxComp X xs capt scope HH.objs.size { s2 with heap:=HH } H2 (s2.heap.objs.size::fp)).Ok:=by
 have hsz:HH.objs.size=s2.heap.objs.size+1:=by rw [eH,Heap.size_push]
 have look:∀ y c,(clOf X.env scope.names []).lookup y=some c->X.env.cells.lookup y=some c:=fun y c e=>by
  rw [x_c] at e
  split at e
  ·rename_i ha
   obtain ⟨p,hp,hq⟩:=List.any_eq_true.mp ha
   simp only [Bool.and_eq_true,beq_iff_eq] at hq
   obtain ⟨q1,q2⟩:=hq
   subst q1
   obtain ⟨c',hc'⟩:=I.ok.has p.1 (.inl (ok.free p.1 p.2 hp q2))
   rw [hc'] at e ⊢
   exact e
  ·cases e
 have keep:∀ b o,s2.heap.get? b=some o->HH.get? b=some o:=fun b o e=>by rw [eH];exact Heap.get?_push_of_some _ e
 refine ⟨I.ok.mod,ok.kind,I.ok.glob,I.ok.blt,Nat.le_refl _,fun y z c h1 h2=>I.ok.inj y z c (look y c h1) (look z c h2),fun y hy=>?_,(fun y c h _=>nomatch h),I.ok.hd,I.ok.frames,I.ok.gd,.inl rfl,fun b hb=>?_,fun b o e=>?_,?_,fun b o e hb=>?_,fun b hb=>?_,?_,fun b hb=>I.stkFree b hb⟩
 ·-- each cell's name has its cell
  have hy':(relabel scope X.env).names.lookup y=some .cell\/(relabel scope X.env).names.lookup y=some .free:=hy
  have inn:∀ (l:List (Str×NameKind)) (k:NameKind),(∀ p∈l,p.2 ≠ .cell)->(k = .cell\/k = .free) ->
    (l.map fun (p:Str×NameKind)=>if (p.2 == NameKind.free&&X.env.scope.kind == .function&&X.env.kindOf p.1 == some .cell)=true then (p.1,NameKind.cell) else (p.1,p.2)).lookup y=some k->∃ p∈l,p.1=y/\p.2 = .free:=by
   intro l k hnc hkk
   induction l with
   | nil=>intro h;simp at h
   | cons p r ih =>
    intro h
    obtain ⟨m,k'⟩:=p
    rw [List.map_cons] at h
    by_cases hc:(k' == NameKind.free&&X.env.scope.kind == .function&&X.env.kindOf m == some .cell)=true
    ·rw [if_pos hc,List.lookup_cons] at h
     have hfree:k' = .free:=by
      simp only [Bool.and_eq_true,beq_iff_eq] at hc
      exact hc.1.1
     cases hm:y == m with
     | true=>exact ⟨(m,k'),List.mem_cons_self,by simpa using Eq.symm (by simpa using hm),hfree⟩
     | false =>
      rw [hm] at h
      obtain ⟨p,hp,q⟩:=ih (fun p hp=>hnc p (List.mem_cons_of_mem _ hp)) h
      exact ⟨p,List.mem_cons_of_mem _ hp,q⟩
    ·rw [if_neg hc,List.lookup_cons] at h
     cases hm:y == m with
     | true =>
      rw [hm] at h
      cases h
      rcases hkk with z | z
      ·exact absurd z (hnc (m,k') List.mem_cons_self)
      ·exact ⟨(m,k'),List.mem_cons_self,by simpa using Eq.symm (by simpa using hm),z⟩
     | false =>
      rw [hm] at h
      obtain ⟨p,hp,q⟩:=ih (fun p hp=>hnc p (List.mem_cons_of_mem _ hp)) h
      exact ⟨p,List.mem_cons_of_mem _ hp,q⟩
  have hex:∃ p∈scope.names,p.1=y/\p.2 = .free:=by
   rcases hy' with h | h
   ·exact inn scope.names .cell ok.cell (.inl rfl) h
   ·exact inn scope.names .free ok.cell (.inr rfl) h
  obtain ⟨p,hp,q1,q2⟩:=hex
  refine ⟨_,(x_c (env:=X.env) scope.names []).trans (if_pos (List.any_eq_true.mpr ⟨p,hp,?_⟩))⟩
  simp [q1,q2]
 ·-- the records that turn are not the frame's
  rcases List.mem_cons.mp hb with z | z
  ·subst z
   refine ⟨Nat.ne_of_lt (show s2.heap.objs.size<HH.objs.size by lia),fun y c e q=>?_⟩
   obtain ⟨v,hv⟩:=I.cell y c (look y c e)
   have:=hv.lt
   rw [q] at this
   exact absurd this (Nat.lt_irrefl _)
  ·obtain ⟨o,ho⟩:=hfo b z
   exact ⟨Nat.ne_of_lt (Nat.lt_of_lt_of_le (Heap.lt_size ho) (show s2.heap.objs.size<=HH.objs.size by lia)),fun y c e=>(hf b z).2.2.2.2.1 y c (look y c e)⟩
 ·obtain ⟨h1,h2⟩:=I.bs b o e
  exact ⟨keep b o h1,h2⟩
 ·show X.base.objs.size<=HH.objs.size
  have h1:=I.ok.bsz
  have h2:=I.sz
  lia
 ·-- the base's objects do not turn
  have h0:=(I.bs b o e).1
  rcases List.mem_cons.mp hb with z | z
  ·subst z
   exact absurd (Heap.lt_size h0) (Nat.lt_irrefl _)
  ·rcases (hf b z).2.2.2.1 with q | q
   ·exact I.ok.noex b o e q
   ·have h1:=(I.ok.bs b o e).1
    exact absurd (Nat.lt_of_lt_of_le (Heap.lt_size h1) q) (Nat.lt_irrefl _)
 ·show b∉frs X.stack
  rcases List.mem_cons.mp hb with z | z
  ·subst z
   exact I.stk_lt (Nat.le_refl _)
  ·intro q
   rcases List.mem_cons.mp (I.stkSub b q) with e | e
   ·exact (hf b z).2.1 e
   ·exact (hf b z).2.2.1 e
 ·show HH.FunFrames X.base X.stack
  exact Heap.FunFrames.of_keeps (fun b o e _=>⟨o,keep b o e,rfl⟩) I.stack
theorem comp_inv(I:Inv X pins σ H2 s2)(ok:CompOk scope X.env.scope xs (capt.map fun j=>X.N.getD j ""))(hcap:∀ j∈capt,j<X.N.length)(hf:∀ b∈fp,FpOk X pins H2 b)(hfo:∀ b∈fp,∃ o,s2.heap.get? b=some o)
  {HH h1:Heap} {t:Nat} {m:Str->Option Value} {oc:Obj} (eH:HH=s2.heap.push emptyL) (hns:h1.Ns HH.objs.size m) (hsb:Heap.SameBut HH.objs.size (HH.push oc) h1) :
  Inv (cxComp X xs capt scope HH.objs.size { s2 with heap:=HH } H2 (s2.heap.objs.size::fp)) [(s2.heap.objs.size,emptyL)] (List.replicate xs.length none++capt.map fun j=>(σ[j]?).join) H2 { s2 with heap:=h1,toks:=t }:=by
 have hsz:HH.objs.size=s2.heap.objs.size+1:=by rw [eH,Heap.size_push]
 have look:∀ y c,(clOf X.env scope.names []).lookup y=some c->X.env.cells.lookup y=some c:=fun y c e=>by
  rw [x_c] at e
  split at e
  ·rename_i ha
   obtain ⟨p,hp,hq⟩:=List.any_eq_true.mp ha
   simp only [Bool.and_eq_true,beq_iff_eq] at hq
   obtain ⟨q1,q2⟩:=hq
   subst q1
   obtain ⟨c',hc'⟩:=I.ok.has p.1 (.inl (ok.free p.1 p.2 hp q2))
   rw [hc'] at e ⊢
   exact e
  ·cases e
 have keep0:∀ b o,HH.get? b=some o->h1.get? b=some o:=fun b o e=>hsb.extBut b o (Nat.ne_of_lt (Heap.lt_size e)) (Heap.get?_push_of_some _ e)
 have keep:∀ b o,s2.heap.get? b=some o->h1.get? b=some o:=fun b o e=>keep0 b o (by rw [eH];exact Heap.get?_push_of_some _ e)
 have hD:h1.get? s2.heap.objs.size=some emptyL:=keep0 _ _ (by rw [eH];exact Heap.get?_push_size _ rfl)
 refine ⟨comp_cxok I ok hf hfo eH,rfl,I.bare,Un.kept keep0,⟨m,hns,fun i y v h1' h2 h3=>?_⟩,fun y c e=>?_,I.hok.fresh (show s2.heap.objs.size<=HH.objs.size by lia),fun y c e=>I.freeC y c (look y c e),fun p hp=>?_,I.hok.kept keep,?_⟩
 ·by_cases hi:i<xs.length
  ·have h2':(List.replicate xs.length (none:Option V))[i]? = some (some v):=by
    rw [<-List.getElem?_append_left (l₂:=capt.map fun j=>(σ[j]?).join) (by simpa using hi)]
    exact h2
   rw [List.getElem?_replicate_of_lt hi] at h2'
   cases h2'
  ·have h1'':(capt.map fun j=>X.N.getD j "")[i-xs.length]? = some y:=by
    rw [<-List.getElem?_append_right (l₁:=xs) (by lia)]
    exact h1'
   have h2':(capt.map fun j=>(σ[j]?).join)[i-xs.length]? = some (some v):=by
    have q:=List.getElem?_append_right (l₁:=List.replicate xs.length (none:Option V)) (l₂:=capt.map fun j=>(σ[j]?).join) (i:=i) (by simpa using hi)
    rw [List.length_replicate] at q
    rw [<-q]
    exact h2
   rw [List.getElem?_map] at h1'' h2'
   cases hj:capt[i-xs.length]? with
   | none=>rw [hj] at h1'';cases h1''
   | some j =>
    rw [hj] at h1'' h2'
    have ey:X.N.getD j "" = y:=by simpa using h1''
    have ev:(σ[j]?).join=some v:=by simpa using h2'
    have hjm:j∈capt:=List.mem_of_getElem? hj
    have hjl:=hcap j hjm
    have hN:X.N[j]? = some y:=by
     rw [List.getD_eq_getElem?_getD,List.getElem?_eq_getElem hjl] at ey
     rw [List.getElem?_eq_getElem hjl]
     simpa using ey
    have hσ:σ[j]? = some (some v):=by
     cases e:σ[j]? with
     | none=>rw [e] at ev;cases ev
     | some o=>rw [e] at ev;have ev':o=some v:=ev;rw [ev']
    have hfr:scope.names.lookup y=some .free:=ok.cs y (List.mem_map.mpr ⟨j,hjm,ey⟩)
    have hout:X.env.scope.names.lookup y=some .cell:=ok.free y .free (PySem.mem_of_lookup hfr) rfl
    obtain ⟨mX,_,hl⟩:=I.loc
    obtain ⟨u,ru,lk⟩:=hl j y v hN hσ (.inr (.inl hout))
    refine ⟨u,ru,?_⟩
    have hko:X.env.kindOf y=some .cell:=hout
    rcases lk with ⟨z,_⟩ | ⟨_,c,hc,hcell⟩
    ·rw [hko] at z;cases z
    ·refine .inr ⟨.inl (relabel_free ok.okind hout hfr),c,?_,hcell.keeps keep⟩
     show (clOf X.env scope.names []).lookup y=some c
     rw [x_c,if_pos (List.any_eq_true.mpr ⟨(y,.free),PySem.mem_of_lookup hfr,by simp⟩),hc]
     rfl
 ·obtain ⟨v,hv⟩:=I.cell y c (look y c e)
  exact ⟨v,hv.keeps keep⟩
 ·have hp':p=(s2.heap.objs.size,emptyL):=by simpa [cxComp] using hp
  subst hp'
  refine ⟨hD,I.hok.fresh (Nat.le_refl _),Nat.ne_of_lt (show s2.heap.objs.size<HH.objs.size by lia),I.stk_lt (Nat.le_refl _),fun v z=>by cases z⟩
 ·show _=(xs++capt.map fun j=>X.N.getD j "").length
  simp
def CompG(J:It)(n:Nat)(c:St)(g:TG)(tt:TT)(te:TE)(H1:Hp)(Fin:List V->Hp->Prop):Prop :=
 ∃ W:Nat->Nat->List V->Hp->Prop,(∃ m,W 0 m [] H1)/\∀ i m ys H,W i m ys H->(J.stop i H/\Fin ys H) \/
  (J.go i H/\ys.length<sizeLine/\∃ N:List V->Hp->Prop,(∀ ys' H',N ys' H'->∃ m',m'<m/\W (i+1) m' ys' H') /\
   ∀ x H',J.yld i H x H'->∀ os:St,os.length=n->g x (os++c) H' fun σ1 H1=>tt σ1 H1 fun b H2=>if b=true then te σ1 H2 fun y H3=>N (ys++[y]) H3 else N ys H2)
def tCompG(n:Nat)(g:TG)(capt:List Nat)(wi:TI)(tt:TT)(te:TE):TE:=fun σ H Q=>wi σ H fun J H1 =>
 CompG J n (capt.map fun j=>(σ[j]?).join) g tt te H1 fun ys H=>∀ l,H l=none->Q (.ref l) (upd H l (.lst ys))
def Shp(n:Nat)(g:TG):Prop:=∀ v (os c:St) H Q,os.length=n->g v (os++c) H Q->g v (os++c) H fun σ' H'=>(∃ os':St,os'.length=n/\σ'=os'++c)/\Q σ' H'
def CompW(J:It)(S:V->St)(tt:TT)(te:TE)(H1:Hp)(Fin:List V->Hp->Prop):Prop :=
 ∃ W:Nat->Nat->List V->Hp->Prop,(∃ m,W 0 m [] H1)/\∀ i m ys H,W i m ys H->(J.stop i H/\Fin ys H) \/
  (J.go i H/\ys.length<sizeLine/\∃ N:List V->Hp->Prop,(∀ ys' H',N ys' H'->∃ m',m'<m/\W (i+1) m' ys' H') /\
   ∀ x H',J.yld i H x H'->tt (S x) H' fun b H2=>if b=true then te (S x) H2 fun y H3=>N (ys++[y]) H3 else N ys H2)
def tComp(capt:List Nat)(wi:TI)(tt:TT)(te:TE):TE:=fun σ H Q=>wi σ H fun J H1 =>
 CompW J (fun x=>some x::capt.map fun j=>(σ[j]?).join) tt te H1 fun ys H=>∀ l,H l=none->Q (.ref l) (upd H l (.lst ys))
theorem CompW.g{J:It}{c:St}{tt:TT}{te:TE}{H:Hp}{Fin:List V->Hp->Prop}(h:CompW J (fun x=>some x::c) tt te H Fin):CompG J 1 c (gName 0) tt te H Fin:=by
 obtain ⟨W,w0,st⟩:=h
 refine ⟨W,w0,fun i m ys H w=>?_⟩
 rcases st i m ys H w with q | ⟨go,hl,N,hN,step⟩
 ·exact .inl q
 ·refine .inr ⟨go,hl,N,hN,fun x H' y os hos=>?_⟩
  obtain ⟨o,rfl⟩:=List.length_eq_one_iff.mp hos
  exact step x H' y
theorem shp_name:Shp 1 (gName 0):=fun v os c H Q hos h=>by
 obtain ⟨o,rfl⟩:=List.length_eq_one_iff.mp hos
 exact ⟨⟨[some v],rfl,rfl⟩,h⟩
theorem shp_tup2{K:PySem.W.Frag}:Shp 2 (gTup K 2 (gCons (gName 0) (gCons (gName 1) gNil))):=fun v os c H Q hos h=>by
 match os,hos with
 | [a,b],_ =>
 obtain ⟨p,xs,rfl,hp,hl,v1,r1,rfl,v2,r2,rfl,rfl,q⟩:=h
 exact ⟨p,_,rfl,hp,hl,v1,_,rfl,v2,_,rfl,rfl,⟨[some v1,some v2],rfl,rfl⟩,q⟩
theorem HOk.track{P:Program}{w:World}{H:Hp}{h:Heap}{a:Addr}{o:HO}(k:HOk P w H h)(n:H a=none)(new:ObjOk P w (upd H a o) h a o):HOk P w (upd H a o) h:=fun b u e=>by
 by_cases hb:b=a
 ·subst hb;rw [z_c] at e;cases e;exact new
 ·rw [z_s hb] at e
  exact (k b u e).stay (fun _ _ _ q=>q) (fun c q=>by rw [z_s (z_n q n)];exact q) (fun c xs q=>by rw [z_s (z_n q n)];exact q) fun c ob xs q=>by rw [z_s (z_n q n)];exact q
theorem comp_block{elt iter tg:Expr}{g:TG}{ifs:List Expr}{pos:Pos}{tt:TT}{te:TE}{it:Addr}{tn:Nat->Heap->Prop}{J:It}{RR:Value->Addr->Result->Shared->Prop}
  (hx0:∀ e s,¬X.xe e s) (hc:X.calm=true) (ok:CompOk scope X.env.scope xs (capt.map fun j=>X.N.getD j "")) (hcap:∀ j∈capt,j<X.N.length) (hG:∀ C s H ex,PG (cxComp X xs capt scope C s H ex) tg g) (hgs:Shp xs.length g)
  (hT:∀ C s H ex,PTs (cxComp X xs capt scope C s H ex) ifs tt) (hE:∀ C s H ex,PE (cxComp X xs capt scope C s H ex) elt te)
  (I2:Inv X pins σ H2 s2) (T:Turn X.prog X.w X.K tg J fp it tn) (st2:tn 0 s2.heap) (f2:∀ b∈fp,FpOk X pins H2 b)
  (Fin:List V->Hp->Prop) (hW:CompG J xs.length (capt.map fun j=>(σ[j]?).join) g tt te H2 Fin)
  (hRR:∀ D C s' ys H' oc,H' D=none->Fin ys H'->Inv X pins σ (upd H' D (.lst ys)) s'->s'.heap.get? C=some oc->(∃ m,s'.heap.Ns C m)->C≠D->H' C=none->C≠X.env.locals->C∉frs X.stack->X.s₀.heap.objs.size<=C->(∀ y c,X.env.cells.lookup y=some c->c≠C)->(∀ p∈X.pn++pins,p.1≠C) ->
   (∀ v,oc.data ≠ .cell v)->RR (.ref D) C (.ok .next) s') :
  wpAny (model X.prog X.w) X.A (newList []) (fun acc s₃=>wpAny (model X.prog X.w) X.A (newFunctionEnv scope X.env.globals (clOf X.env scope.names []) [] X.env.qual none .none (some X.env)) (fun cenv s₄ =>
   codeAny (model X.prog X.w) X.A (.compStart (.ListComp elt [⟨tg,iter,ifs,0⟩] scope pos) 0 (.ref it) acc { cenv with scope:=relabel scope X.env }) (RR acc cenv.locals) s₄) X.xe s₃) X.xe s2:=by
 refine wpAny_newObj_type (wpAny_newFunctionEnv ok.cell (by intro y hy;simp at hy) (fun h1 hns hsb=>?_) ok.kind)
 dsimp only at hns hsb ⊢
 generalize eH:s2.heap.push { cls:=.type "list",dict:=none,data:=.seq ([]:List Value).toArray }=HH at hns hsb ⊢
 have eH':HH=s2.heap.push emptyL:=eH.symm
 have hsz:HH.objs.size=s2.heap.objs.size+1:=by rw [eH',Heap.size_push]
 have hfo:∀ b∈fp,∃ o,s2.heap.get? b=some o:=fun b hb=>let ⟨o,ho,_⟩:=T.obj 0 _ st2 b hb;⟨o,ho⟩
 have flt:∀ b∈fp,b<s2.heap.objs.size:=fun b hb=>let ⟨o,ho⟩:=hfo b hb;Heap.lt_size ho
 have keep1:∀ b o,s2.heap.get? b=some o->h1.get? b=some o:=fun b o e =>
  hsb.extBut b o (Nat.ne_of_lt (Nat.lt_of_lt_of_le (Heap.lt_size e) (show s2.heap.objs.size<=HH.objs.size by lia))) (Heap.get?_push_of_some _ (by rw [eH'];exact Heap.get?_push_of_some _ e))
 have I4:=comp_inv (t:=s2.toks+([]:List (Str×Value)).length) I2 ok hcap f2 hfo eH' hns hsb
 have st4:tn 0 h1:=T.keep 0 _ _ st2 fun b _ o e=>keep1 b o e
 obtain ⟨W,⟨m0,w0⟩,turn⟩:=hW
 generalize hX:cxComp X xs capt scope HH.objs.size { s2 with heap:=HH } H2 (s2.heap.objs.size::fp)=Y at I4
 have eProg:Y.prog=X.prog:=by rw [<-hX];rfl
 have eW:Y.w=X.w:=by rw [<-hX];rfl
 have eK:Y.K=X.K:=by rw [<-hX];rfl
 have eA:Y.A=X.A:=by rw [<-hX];rfl
 have eEnv:Y.env=compEnvC scope (clOf X.env scope.names []) HH.objs.size X.env:=by rw [<-hX];rfl
 have eXe:Y.xe=X.xe:=by rw [<-hX];rfl
 have eCalm:Y.calm=true:=by rw [<-hX];exact hc
 have ePn:Y.pn=[]:=by rw [<-hX];rfl
 have eEx:Y.ex=s2.heap.objs.size::fp:=by rw [<-hX];rfl
 have eFs:Y.fs=frs X.stack:=by rw [<-hX];rfl
 have hT':PTs Y ifs tt:=by rw [<-hX];exact hT _ _ _ _
 have hE':PE Y elt te:=by rw [<-hX];exact hE _ _ _ _
 have hG':PG Y tg g:=by rw [<-hX];exact hG _ _ _ _
 have eH0:Y.H₀=H2:=by rw [<-hX];rfl
 have eS0:Y.s₀={ s2 with heap:=HH }:=by rw [<-hX];rfl
 have eL:Y.env.locals=HH.objs.size:=by rw [eEnv];rfl
 have ecl:Y.env.cells=clOf X.env scope.names []:=by rw [eEnv];rfl
 have look:∀ y c,(clOf X.env scope.names []).lookup y=some c->X.env.cells.lookup y=some c:=fun y c e=>by
  rw [x_c] at e
  split at e
  ·rename_i ha
   obtain ⟨p,hp,hq⟩:=List.any_eq_true.mp ha
   simp only [Bool.and_eq_true,beq_iff_eq] at hq
   obtain ⟨q1,q2⟩:=hq
   subst q1
   obtain ⟨c',hc'⟩:=I2.ok.has p.1 (.inl (ok.free p.1 p.2 hp q2))
   rw [hc'] at e ⊢
   exact e
  ·cases e
 have fpOk:∀ {pins':List (Addr×Obj)} {H':Hp},(∀ b∈fp,H' b=none)->(∀ p∈pins',p.1∉fp)->∀ b∈fp,FpOk Y pins' H' b:=fun {pins' H'} hn hp b hb=>by
  have hlt:=flt b hb
  refine ⟨hn b hb,by rw [eL];exact Nat.ne_of_lt (Nat.lt_of_lt_of_le hlt (show s2.heap.objs.size<=HH.objs.size by lia)),?_,.inl (by rw [eEx];exact List.mem_cons_of_mem _ hb),fun y c e=>(f2 b hb).2.2.2.2.1 y c (look y c (by rw [<-ecl];exact e)),fun p hpp z=>?_⟩
  ·rw [eFs]
   intro q
   rcases List.mem_cons.mp (I2.stkSub b q) with e | e
   ·exact (f2 b hb).2.1 e
   ·exact (f2 b hb).2.2.1 e
  ·rw [ePn,List.nil_append] at hpp
   exact hp p hpp (by rw [z];exact hb)
 have Dnf:s2.heap.objs.size∉fp:=fun z=>absurd (flt _ z) (Nat.lt_irrefl _)
 have loop:codeAny (model X.prog X.w) X.A (.compLoop (.ListComp elt [⟨tg,iter,ifs,0⟩] scope pos) 0 (.ref it) (.ref s2.heap.objs.size) Y.env) (RR (.ref s2.heap.objs.size) HH.objs.size) { s2 with heap:=h1,toks:=s2.toks+([]:List (Str×Value)).length }:=by
  refine compLoop_own (fun n s'=>∃ i ys its k os H',Inv Y [(s2.heap.objs.size,{ cls:=.type "list",data:=.seq its.toArray k })] (os++capt.map fun j=>(σ[j]?).join) H' s'/\os.length=xs.length/\Vals ys its/\ys.length<=sizeLine/\tn i s'.heap/\(∀ b∈fp,H' b=none)/\W i n ys H') ?_ m0
   ⟨0,[],[],0,_,H2,I4,List.length_replicate,.nil,Nat.zero_le _,st4,fun b hb=>(f2 b hb).1,w0⟩
  rintro n s3 ⟨i,ys,its,k,os,H3,I3,hos,rv,hys,st3,fr3,w3⟩
  have noErr:∀ {e:Value} {s:Shared},X.xe e s->notedBy (model X.prog X.w) X.A Y.env (fun e s'=>RR (.ref s2.heap.objs.size) HH.objs.size (.error e) s') e s:=fun {e s} z=>(hx0 e s z).elim
  have pinD:=I3.pin (s2.heap.objs.size,{ cls:=.type "list",data:=.seq its.toArray k }) (by simp)
  have fp3:=fpOk (pins':=[(s2.heap.objs.size,{ cls:=.type "list",data:=.seq its.toArray k })]) fr3 (by simpa using Dnf)
  rcases turn i n ys H3 w3 with ⟨stop,fin⟩ | ⟨go,hlt,N,hN,step⟩
  ·-- it stops
   have d:=T.done Y eProg eW eK eCalm i _ s3 _ H3 X.xe I3 fp3 st3 stop
   rw [eA] at d
   refine wpAny_mono d (fun r s4 ⟨hr,I4'⟩=>?_) fun e s z=>noErr z
   subst hr
   show RR (.ref s2.heap.objs.size) HH.objs.size (.ok .next) s4
   have pinD4:=I4'.pin (s2.heap.objs.size,{ cls:=.type "list",data:=.seq its.toArray k }) (by simp)
   obtain ⟨mC,nsC,_⟩:=I4'.loc
   rw [eL] at nsC
   obtain ⟨oC,esC,epC,hoC,hdC,_⟩:=id nsC
   have base4:=I4'.base
   rw [eFs,eEx,eH0,eS0] at base4
   have hCn:H3 HH.objs.size=none:=by rw [<-eL];exact I4'.free
   refine hRR s2.heap.objs.size HH.objs.size s4 ys H3 oC pinD4.2.1 fin ?_ hoC ⟨mC,nsC⟩ (Nat.ne_of_gt (show s2.heap.objs.size<HH.objs.size by lia)) hCn (Nat.ne_of_gt (Nat.lt_of_lt_of_le I2.lt (show s2.heap.objs.size<=HH.objs.size by lia))) (I2.stk_lt (by lia)) (by have:=I2.sz;lia) (fun y c e z=>?_) (fun p hp z=>?_) (fun v z=>by rw [hdC] at z;cases z)
   ·have hok4:=I4'.hok
    rw [eProg,eW] at hok4
    have hbl:∀ b ob,s2.heap.get? b=some ob->b∉fp->HH.get? b=some ob/\b∉s2.heap.objs.size::fp:=fun b ob e hm =>
     ⟨by rw [eH'];exact Heap.get?_push_of_some _ e,fun z=>(List.mem_cons.mp z).elim (fun q=>absurd (Heap.lt_size e) (by rw [q];exact Nat.lt_irrefl _)) hm⟩
    refine I2.call' (ch:=fp) (by rw [I4'.os,eS0]) ⟨fun b ob e nn hb hx=>?_,fun b ob e nn hb hx=>?_,fun b ob e nn hx=>?_,fun b ob e hx=>?_,fun b xs e=>?_,fun b ob u e=>?_,fun b pp qq e=>?_⟩ (HOk.track hok4 pinD4.2.1 ⟨hys,its,k,rv,pinD4.1⟩) I4'.bare fun b hb=>⟨(f2 b hb).2.2.2.1,(f2 b hb).2.1,(f2 b hb).2.2.2.2.1,(f2 b hb).2.2.2.2.2⟩
    ·obtain ⟨h1',h2'⟩:=hbl b ob e hx
     exact base4.keep b ob h1' nn hb h2'
    ·obtain ⟨h1',h2'⟩:=hbl b ob e hx
     exact base4.slot b ob h1' nn hb h2'
    ·obtain ⟨h1',h2'⟩:=hbl b ob e hx
     rw [z_s (Nat.ne_of_lt (Heap.lt_size e))]
     exact base4.free b ob h1' nn h2'
    ·obtain ⟨h1',h2'⟩:=hbl b ob e hx
     exact base4.there b ob h1' h2'
    ·have q:=base4.tups b xs e
     rw [z_s (z_n q pinD4.2.1)]
     exact q
    ·have q:=base4.frzs b ob u e
     rw [z_s (z_n q pinD4.2.1)]
     exact q
    ·have q:=base4.tbls b pp qq e
     rw [z_s (z_n q pinD4.2.1)]
     exact q
   ·obtain ⟨v,hv⟩:=I2.cell y c e
    have:=hv.lt
    rw [z] at this
    exact absurd this (Nat.not_lt.mpr (show s2.heap.objs.size<=HH.objs.size by lia))
   ·have:=Heap.lt_size (I2.pin p hp).1
    rw [z] at this
    exact absurd this (Nat.not_lt.mpr (show s2.heap.objs.size<=HH.objs.size by lia))
  ·-- one turn
   have d:=T.item Y eProg eW eK eCalm i _ s3 _ H3 X.xe I3 fp3 st3 go
   rw [eA] at d
   refine wpAny_mono d (fun r s4 ⟨u,hr,h4⟩=>?_) fun e s z=>noErr z
   subst hr
   refine wpAny_mono h4 (fun _ s5 ⟨v,H5,I5,r5,y5,st5,fr5⟩=>?_) fun e s z=>noErr z
   have fp5:=fpOk (pins':=[(s2.heap.objs.size,{ cls:=.type "list",data:=.seq its.toArray k })]) fr5 (by simpa using Dnf)
   have I5':=I5.pinned fp5 (T.obj _ _ st5)
   have pg':=hG' _ s5 _ H5 v u _ I5' r5 (hgs v os _ H5 _ hos (step v H5 y5 os hos))
   rw [eProg,eW,eA,eXe] at pg'
   refine wpAny_mono pg' (fun _ s6 ⟨σ6,H6,I6,⟨os6,hos6,e6⟩,q6⟩=>?_) fun e s z=>noErr z
   subst e6
   have t6:=hT' _ s6 _ H6 _ I6 q6
   rw [eProg,eW,eA,eXe] at t6
   refine wpAny_mono t6 (fun b s7 ⟨H7,I7,q7⟩=>?_) fun e s z=>noErr z
   have ntn:∀ {σ':St} {H':Hp} {s':Shared},Inv Y ([(s2.heap.objs.size,{ cls:=.type "list",data:=.seq its.toArray k })]++pinsAt fp s5.heap) σ' H' s'->tn (i+1) s'.heap/\∀ b∈fp,H' b=none:=fun {σ' H' s'} J'=>by
    refine ⟨T.keep _ _ _ st5 fun b hb o e=>(J'.pin (b,o) (List.mem_append_right _ (List.mem_append_right _ (mem_pinsAt hb e)))).1,fun b hb=>?_⟩
    obtain ⟨o,e,_⟩:=T.obj _ _ st5 b hb
    exact (J'.pin (b,o) (List.mem_append_right _ (List.mem_append_right _ (mem_pinsAt hb e)))).2.1
   cases b with
   | false =>
    rw [if_neg Bool.false_ne_true] at q7
    obtain ⟨m',hm,w7⟩:=hN _ _ q7
    rw [if_neg Bool.false_ne_true]
    exact ⟨m',hm,i+1,ys,its,k,os6,H7,I7.unpinned,hos6,rv,hys,(ntn I7).1,(ntn I7).2,w7⟩
   | true =>
    rw [if_pos rfl] at q7
    rw [if_pos rfl]
    have e7:=hE' _ s7 _ H7 _ I7 q7
    rw [eProg,eW,eA,eXe] at e7
    refine wpAny_mono e7 (fun uy s8 ⟨y,H8,I8,r8,n8⟩=>?_) fun e s z=>noErr z
    obtain ⟨m',hm,w8⟩:=hN _ _ n8
    have pin8:=I8.pin (s2.heap.objs.size,{ cls:=.type "list",data:=.seq its.toArray k }) (by simp)
    have hlen:ys.length=its.length:=rv.length
    refine wpAny_list_append_plain (hsz:=by rw [List.size_toArray];lia) ⟨k,pin8.1⟩ fun h9 ⟨k9,hl9⟩ hs9=>?_
    have hk9:∀ b o,b≠s2.heap.objs.size->s8.heap.get? b=some o->h9.get? b=some o:=fun b o hb e=>(hs9.2 b hb).trans e
    have I8u:Inv Y (pinsAt fp s5.heap) (os6++capt.map fun j=>(σ[j]?).join) H8 s8:=I8.pins_of fun p hp=>I8.pin p (List.mem_append_right _ (List.mem_append_right _ hp))
    have I9:Inv Y (pinsAt fp s5.heap) (os6++capt.map fun j=>(σ[j]?).join) H8 { s8 with heap:=h9,toks:=s8.toks }:=I8u.turned (it:=s2.heap.objs.size) hk9 pin8.2.1 (by rw [eL];exact Nat.ne_of_lt (show s2.heap.objs.size<HH.objs.size by lia)) (.inl (by rw [eEx];exact List.mem_cons_self))
     (fun y c e z=>by
      rw [ecl] at e
      obtain ⟨v',hv⟩:=I2.cell y c (look y c e)
      have:=hv.lt
      rw [z] at this
      exact absurd this (Nat.lt_irrefl _))
     (fun p hp z=>by
      rw [ePn,List.nil_append] at hp
      exact Dnf (by rw [<-z];exact (of_pinsAt hp).1))
    have hl9':h9.get? s2.heap.objs.size=some { cls:=.type "list",data:=.seq (its++[uy]).toArray k9 }:=by
     rw [hl9];simp
    refine ⟨m',hm,i+1,ys++[y],its++[uy],k9,os6,H8,I9.pins_of fun p hp=>?_,hos6,rv.append (.cons r8 .nil),?_,?_,(ntn I8).2,w8⟩
    ·have hp':p=(s2.heap.objs.size,{ cls:=.type "list",data:=.seq (its++[uy]).toArray k9 }):=by simpa using hp
     subst hp'
     exact ⟨hl9',pin8.2.1,pin8.2.2.1,pin8.2.2.2.1,fun v z=>by cases z⟩
    ·rw [List.length_append,List.length_singleton];lia
    ·refine T.keep _ _ _ (ntn I8).1 fun b hb o e=>hk9 b o (fun z=>Dnf (by rw [<-z];exact hb)) e
 rw [eEnv] at loop
 refine codeAny_compStart_list ?_ ?_
 ·exact loop
 ·exact T.self _ 0 _ _ _ st4 loop
theorem pe_compG{elt iter tg:Expr}{g:TG}{ifs:List Expr}{pos:Pos}{wi:TI}{tt:TT}{te:TE}(xs:List Str)(capt:List Nat)
  (hx0:∀ e s,¬X.xe e s) (hc:X.calm=true) (hi:PI X tg iter wi) (hG:∀ C s H ex,PG (cxComp X xs capt scope C s H ex) tg g) (hgs:Shp xs.length g)
  (hT:∀ C s H ex,PTs (cxComp X xs capt scope C s H ex) ifs tt) (hE:∀ C s H ex,PE (cxComp X xs capt scope C s H ex) elt te)
  (hk:compOk scope X.env.scope xs (capt.map fun j=>X.N.getD j "")=true) (hcap:∀ j∈capt,j<X.N.length)
  (hs:∀ y,foldedSetIterable iter X.env y=pure y:=by intro _;rfl):PE X (.ListComp elt [⟨tg,iter,ifs,0⟩] scope pos) (tCompG xs.length g capt wi tt te):=by
 intro pins s σ H Q I h
 have ok:=compOk.mk hk
 rw [eval_ListComp]
 refine wpAny_comprehension_free (use:=none) (cl:=clOf X.env scope.names []) rfl hs (closure_clOf fun n k hm hf=>?_) ok.kind ok.names (thn (hi pins s σ H _ I h) fun xv s1 h1=>thn h1 fun itv s2 h2=>?_)
 ·obtain ⟨c,e⟩:=I.ok.has n (.inl (ok.free n k hm (by simpa using hf)))
  rw [e];rfl
 ·obtain ⟨it,fp,tn,J,H2,e,I2,T,st2,f2,hW⟩:=h2
  subst e
  refine comp_block (RR:=fun acc C=>compPost (model X.prog X.w) X.A X.xe none (EP X pins σ Q) acc C) hx0 hc ok hcap hG hgs hT hE I2 T st2 f2 (fun ys H=>∀ l,H l=none->Q (.ref l) (upd H l (.lst ys))) hW ?_
  intro D C s' ys H' oc hD fin I' hC ⟨m,hns⟩ hCD hCn hL _ hsz hcl hpn _
  refine ⟨m,hns,fun h' hsb=>⟨.ref D,_,I'.turned (t':=s'.toks) (it:=C) (fun b o hb e=>(hsb.2 b hb).trans e) (by rw [z_s hCD];exact hCn) hL (.inr hsz) hcl hpn,rfl,fin D hD⟩⟩
theorem pe_comp{elt iter:Expr}{x:Str}{px:Pos}{ifs:List Expr}{pos:Pos}{wi:TI}{tt:TT}{te:TE}(capt:List Nat)
  (hx0:∀ e s,¬X.xe e s) (hc:X.calm=true) (hi:PI X (.Name x px) iter wi)
  (hT:∀ C s H ex,PTs (cxComp X [x] capt scope C s H ex) ifs tt) (hE:∀ C s H ex,PE (cxComp X [x] capt scope C s H ex) elt te)
  (hk:compOk scope X.env.scope [x] (capt.map fun j=>X.N.getD j "")=true) (hcap:∀ j∈capt,j<X.N.length) (hnd:(x::capt.map fun j=>X.N.getD j "").Nodup)
  (hs:∀ y,foldedSetIterable iter X.env y=pure y:=by intro _;rfl):PE X (.ListComp elt [⟨.Name x px,iter,ifs,0⟩] scope pos) (tComp capt wi tt te):=by
 intro pins s σ H Q I h
 have ok:=compOk.mk hk
 rw [eval_ListComp]
 refine wpAny_comprehension_free (use:=none) (cl:=clOf X.env scope.names []) rfl hs (closure_clOf fun n k hm hf=>?_) ok.kind ok.names (thn (hi pins s σ H _ I h) fun xv s1 h1=>thn h1 fun itv s2 h2=>?_)
 ·obtain ⟨c,e⟩:=I.ok.has n (.inl (ok.free n k hm (by simpa using hf)))
  rw [e];rfl
 ·obtain ⟨it,fp,tn,J,H2,e,I2,T,st2,f2,hW⟩:=h2
  subst e
  refine comp_block (RR:=fun acc C=>compPost (model X.prog X.w) X.A X.xe none (EP X pins σ Q) acc C) hx0 hc ok hcap (xs:=[x]) (g:=gName 0) (fun C s H ex=>y_g hnd rfl (.inl (lookup_relabel_local (ok.x x (by simp)))) (.inr (lookup_relabel_local (ok.x x (by simp))))) shp_name hT hE I2 T st2 f2 (fun ys H=>∀ l,H l=none->Q (.ref l) (upd H l (.lst ys))) hW.g ?_
  intro D C s' ys H' oc hD fin I' hC ⟨m,hns⟩ hCD hCn hL _ hsz hcl hpn _
  refine ⟨m,hns,fun h' hsb=>⟨.ref D,_,I'.turned (t':=s'.toks) (it:=C) (fun b o hb e=>(hsb.2 b hb).trans e) (by rw [z_s hCD];exact hCn) hL (.inr hsz) hcl hpn,rfl,fin D hD⟩⟩
theorem ps_comp{elt iter:Expr}{x:Str}{px:Pos}{py:Pos}{ifs:List Expr}{pos spos:Pos}{wi:TI}{tt:TT}{te:TE}{i:Nat}{y:Str}(capt:List Nat)
  (hN:X.N.Nodup) (hiy:X.N[i]? = some y) (hy:Loc X.env.scope y)
  (hx0:∀ e s,¬X.xe e s) (hc:X.calm=true) (hi:PI X (.Name x px) iter wi)
  (hT:∀ C s H ex,PTs (cxComp X [x] capt scope C s H ex) ifs tt) (hE:∀ C s H ex,PE (cxComp X [x] capt scope C s H ex) elt te)
  (hk:compOk scope X.env.scope [x] (capt.map fun j=>X.N.getD j "")=true) (hcap:∀ j∈capt,j<X.N.length) (hnd:(x::capt.map fun j=>X.N.getD j "").Nodup)
  (hsw:swapsWith (.ListComp elt [⟨.Name x px,iter,ifs,0⟩] scope pos) (some (.Name y py)) spos.line X.env=pure true)
  (hs:∀ y,foldedSetIterable iter X.env y=pure y:=by intro _;rfl) (hf:X.fn y=true\/X.env.scope.names.lookup y=some .local:=by first | exact .inl rfl | exact .inr rfl | assumption) :
  PS X (.Assign [.Name y py] (.ListComp elt [⟨.Name x px,iter,ifs,0⟩] scope pos) spos) (tAsg (tComp capt wi tt te) (gName i)):=by
 intro pins s σ H D0 I h
 have ok:=compOk.mk hk
 rw [exec_Assign_Name_used _ _ _ _ hsw]
 refine wpAny_bind (wpAny_standAt (wpAny_bind ?_))
 show wpAny _ X.A (do let _ <-comprehension (.ListComp elt [⟨.Name x px,iter,ifs,0⟩] scope pos) scope X.env _ (newList []) false (eval iter X.env) (some (assign (.Name y py) X.env))) _ _ s
 refine wpAny_bind (wpAny_mono (wpAny_comprehension_free (use:=some (assign (.Name y py) X.env)) (cl:=clOf X.env scope.names []) (Q:=fun _ s'=>SP X pins D0 .next s') rfl hs (closure_clOf fun n k hm hf=>?_) ok.kind ok.names (thn (hi pins s σ H _ I h) fun xv s1 h1=>thn h1 fun itv s2 h2=>?_))
  (fun _ s' hq=>wpAny_pure (wpAny_pure hq)) fun _ _ e=>e)
 ·obtain ⟨c,e⟩:=I.ok.has n (.inl (ok.free n k hm (by simpa using hf)))
  rw [e];rfl
 ·obtain ⟨it,fp,tn,J,H2,e,I2,T,st2,f2,hW⟩:=h2
  subst e
  refine comp_block (RR:=fun acc C=>compPost (model X.prog X.w) X.A X.xe (some (assign (.Name y py) X.env)) (fun _ s'=>SP X pins D0 .next s') acc C) hx0 hc ok hcap (xs:=[x]) (g:=gName 0) (fun C s H ex=>y_g hnd rfl (.inl (lookup_relabel_local (ok.x x (by simp)))) (.inr (lookup_relabel_local (ok.x x (by simp))))) shp_name hT hE I2 T st2 f2 (fun ys H=>∀ l,H l=none->gName i (.ref l) σ (upd H l (.lst ys)) D0.nx) hW.g ?_
  intro D C s' ys H' oc hD fin I' hC ⟨m,hns⟩ hCD hCn hL hst hsz hcl hpn hnc
  show wpAny _ _ (assign (.Name y py) X.env (.ref D)) _ _ s'
  have hCf:C∉X.fs:=fun z=>by
   rcases I'.ok.stk with e | ⟨e,_⟩
   ·exact hst (by rw [e];exact z)
   ·refine hst ?_
    rw [e]
    unfold frs
    rw [List.filterMap_cons]
    split
    ·exact z
    ·exact List.mem_cons_of_mem _ z
  have Ip:Inv X (pins++[(C,oc)]) σ (upd H' D (.lst ys)) s':=I'.pins_of fun p hp=>(List.mem_append.mp hp).elim (fun z=>I'.pin p (List.mem_append_right _ z)) fun z=>by
   have z':p=(C,oc):=by simpa using z
   subst z'
   exact ⟨hC,by rw [z_s hCD];exact hCn,hL,hCf,hnc⟩
  have pg:=y_g (X:=X) (i:=i) (x:=y) (pos:=py) hN hiy hy hf
  refine thn (pg _ s' σ _ (.ref D) (.ref D) (fun σ' H''=>D0.nx σ' H''/\H''=upd H' D (.lst ys)) Ip rfl ⟨fin D hD,rfl⟩) fun _ s'' ⟨σ',H'',I'',q,eH⟩=>?_
  subst eH
  have pC:=I''.pin (C,oc) (by simp)
  obtain ⟨o,es,ep,ho,r⟩:=hns
  rw [hC] at ho
  cases ho
  refine ⟨m,⟨oc,es,ep,pC.1,r⟩,fun h' hsb=>?_⟩
  have Iu:Inv X pins σ' (upd H' D (.lst ys)) s'':=I''.pins_of fun p hp=>I''.pin p (List.mem_append_right _ (List.mem_append_left _ hp))
  exact ⟨σ',_,Iu.turned (t':=s''.toks) (it:=C) (fun b o hb e=>(hsb.2 b hb).trans e) pC.2.1 hL (.inr hsz) hcl hpn,q⟩
end
open PySem PySem.Spec PyProof.Rows
section
variable {X:Cx}
def bigB:Int:=1645504557321206042154969182557350504982735865633579863348609024
def CDivL(i j:Int):Prop:=0<j/\j<bigB
theorem log2_lt_of{n k:Nat}(h:n<2^k)(hk:0<k):n.log2<k:=by
 by_cases h0:n=0
 ·subst h0;simpa using hk
 ·exact (Nat.log2_lt h0).mpr h
theorem op_fdivL:OpR X (binaryOp .FloorDiv) (rI CDivL fun i j=>.int (i/j)):=opI fun i j _ _ _ _ _ hc q=>by
 have h1:(0:Int)<j:=hc.1
 have h2:j<bigB:=hc.2
 refine floordiv_int (by lia) (by rw [Int.fdiv_eq_ediv_of_nonneg i (by lia)];exact q) (.inl (PyProof.noPylong_of_log2 ?_))
 have h3:j.natAbs<2^210:=by
  have e:(2^210:Nat)=1645504557321206042154969182557350504982735865633579863348609024:=by decide
  unfold bigB at h2
  rw [e]
  lia
 exact Nat.lt_of_lt_of_le (log2_lt_of h3 (by decide)) (by decide)
theorem call_isinst{T:String}:CallR X (.builtin "isinstance") (fun xs H Q=>∃ x t b,xs=[x,.ty T]/\TyOf X.K H x t/\PySem.W.kitOne X.K t (.type T)=some b/\Q (.bl b) H):=by
 intro pins s σ H xs us Q I r h
 obtain ⟨x,t,b,rfl,ty,e,q⟩:=h
 obtain ⟨u,w',rfl,rx,rt⟩:=vals2 r
 cases rt
 exact isinst_ok I rx ty e fun tk=>⟨.bl b,H,I.tok _,rfl,q⟩
theorem bools_of{bs:List Bool}:∀ {us:List Value},Vals (bs.map V.bl) us->us=bs.map Value.bool:=by
 induction bs with
 | nil=>intro us r;cases r;rfl
 | cons b bs ih =>
  intro us r
  rw [List.map_cons] at r
  cases r with
  | cons r1 r2 =>
   cases r1
   rw [ih r2,List.map_cons]
theorem call_all:CallR X (.builtin "all") (fun xs H Q=>X.calm=true/\∃ (p:Addr) (bs:List Bool),xs=[.ref p]/\SqL X.K H p (bs.map V.bl)/\Q (.bl (bs.all id)) H):=by
 intro pins s σ H xs us Q I r h
 obtain ⟨hc,p,bs,rfl,hp,q⟩:=h
 obtain ⟨u,rfl,ru⟩:=vals1 r
 cases ru
 obtain ⟨its,rv,pl,hz⟩:=I.list hp
 have e:=bools_of rv
 subst e
 have hl:=pl.isList
 have hlt:p<s.heap.objs.size:=by obtain ⟨_,e,_⟩:=hl;exact Heap.lt_size e
 refine call_all_walk (wpAny_pyIter_list hl ?_)
 refine ⟨s.heap.objs.size,[s.heap.objs.size,p],[s.heap.objs.size],(bs.map Value.bool).toArray.size,_,_,fun i=>(bs[i]?).getD true,rfl,Walks.list (A:=X.A.in1) (I.ok.hd hc) _ p (Nat.ne_of_lt hlt) (bs.map Value.bool).toArray,
  ⟨⟨_,Heap.get?_push_size _ rfl,rfl,rfl⟩,hl.push _⟩,fun i v s' Q' E' hP hQ=>?_,fun h' tk hk=>?_⟩
 ·have hP':(bs.map Value.bool)[i]? = some v:=by simpa using hP
  rw [List.getElem?_map] at hP'
  cases e:bs[i]? with
  | none=>rw [e] at hP';cases hP'
  | some b =>
   rw [e] at hP'
   have ev:Value.bool b=v:=Option.some.inj hP'
   subst ev
   simp only [e,Option.getD_some] at hQ
   exact wpAny_truthy_bool hQ
 ·have e:((List.range (bs.map Value.bool).toArray.size).all fun i=>(bs[i]?).getD true)=bs.all id:=by
   rw [List.size_toArray,List.length_map]
   rw [Bool.eq_iff_iff,List.all_eq_true,List.all_eq_true]
   constructor
   ·intro h b hb
    obtain ⟨i,hi,rfl⟩:=List.mem_iff_getElem.mp hb
    have:=h i (List.mem_range.mpr hi)
    rw [List.getElem?_eq_getElem hi] at this
    exact this
   ·intro h i hi
    have hi':=List.mem_range.mp hi
    rw [List.getElem?_eq_getElem hi']
    exact h _ (List.getElem_mem hi')
  rw [e]
  exact ⟨.bl _,H,I.kept (t':=tk) fun b o eb=>hk b o (fun z=>by rw [List.mem_singleton.mp z] at eb;exact Nat.lt_irrefl _ (Heap.lt_size eb)) (Heap.get?_push_of_some _ eb),rfl,q⟩
theorem strs_of{ts:List Str}:∀ {us:List Value},Vals (ts.map V.str) us->StrsAre us ts:=by
 induction ts with
 | nil=>intro us r;cases r;exact .nil
 | cons x xs ih =>
  intro us r
  rw [List.map_cons] at r
  cases r with
  | cons r1 r2 =>
   obtain ⟨t,rfl⟩:=r1
   exact .cons x t (ih r2)
theorem mt_join:MtR X "str.join" (fun x xs H Q=>∃ (sep:Str) (p:Addr) (ts:List Str),x = .str sep/\xs=[.ref p]/\SqL X.K H p (ts.map V.str)/\(ts.map (·.length)).sum+ts.length*sep.length<=16777216/\Q (.str (Txt.join sep ts)) H):=by
 intro pins s σ H x xs v us Q I rx r h
 obtain ⟨sep,p,ts,rfl,rfl,hp,hz,q⟩:=h
 obtain ⟨t,rfl⟩:=rx
 obtain ⟨u,rfl,ru⟩:=vals1 r
 cases ru
 obtain ⟨its,rv,pl,_⟩:=I.list hp
 exact PyProof.Rows.join_list pl.isList (by simpa using strs_of rv) hz fun t' k=>⟨.str _,H,I.tok _,⟨_,rfl⟩,q⟩
end
section
variable {S:V->St} {tt:TT} {te:TE} {H:Hp} {Fin:List V->Hp->Prop}
theorem comp_range{lo:Int}{n:Nat}(Pv:Nat->List V->Hp->Prop)(h0:Pv 0 [] H)(hz:∀ i ys H,i<n->Pv i ys H->ys.length<sizeLine)
  (hs:∀ i ys H,i<n->Pv i ys H->tt (S (.int (lo+i))) H fun b H2=>if b=true then te (S (.int (lo+i))) H2 fun y H3=>Pv (i+1) (ys++[y]) H3 else Pv (i+1) ys H2)
  (hd:∀ ys H,Pv n ys H->Fin ys H):CompW (Itr lo n) S tt te H Fin:=by
 refine ⟨fun i m ys H=>m=n-i/\i<=n/\Pv i ys H,⟨n,by simp,Nat.zero_le _,h0⟩,?_⟩
 rintro i m ys H ⟨rfl,hi,p⟩
 by_cases hlt:i<n
 ·refine .inr ⟨hlt,hz i ys H hlt p,Pv (i+1),fun ys' H' p'=>⟨n-(i+1),by lia,rfl,hlt,p'⟩,fun x H' y=>?_⟩
  obtain ⟨e,y⟩:=y
  subst e y
  exact hs i ys _ hlt p
 ·have e:i=n:=by lia
  subst e
  exact .inl ⟨Nat.le_refl _,hd ys H p⟩
theorem comp_list{K:PySem.W.Frag}{a:Addr}{xs:List V}(Pv:Nat->List V->Hp->Prop)(h0:Pv 0 [] H)(hl:∀ i ys H,i<=xs.length->Pv i ys H->SqL K H a xs)(hz:∀ i ys H,i<xs.length->Pv i ys H->ys.length<sizeLine)
  (hs:∀ i x ys H,xs[i]? = some x->Pv i ys H->tt (S x) H fun b H2=>if b=true then te (S x) H2 fun y H3=>Pv (i+1) (ys++[y]) H3 else Pv (i+1) ys H2)
  (hd:∀ ys H,Pv xs.length ys H->Fin ys H):CompW (Itl K a) S tt te H Fin:=by
 refine ⟨fun i m ys H=>m=xs.length-i/\i<=xs.length/\Pv i ys H,⟨xs.length,by simp,Nat.zero_le _,h0⟩,?_⟩
 rintro i m ys H ⟨rfl,hi,p⟩
 have q:=hl i ys H hi p
 by_cases hlt:i<xs.length
 ·refine .inr ⟨⟨xs,xs[i],q,by simp [hlt]⟩,hz i ys H hlt p,Pv (i+1),fun ys' H' p'=>⟨xs.length-(i+1),by lia,rfl,hlt,p'⟩,fun x H' y=>?_⟩
  obtain ⟨e,y⟩:=y
  subst e
  exact hs i x ys _ (y xs q) p
 ·have e:i=xs.length:=by lia
  subst e
  exact .inl ⟨⟨xs,q,Nat.le_refl _⟩,hd ys H p⟩
theorem comp_tup{K:PySem.W.Frag}{a:Addr}{xs:List V}(Pv:Nat->List V->Hp->Prop)(h0:Pv 0 [] H)(hl:∀ i ys H,i<=xs.length->Pv i ys H->SqT K H a xs)(hz:∀ i ys H,i<xs.length->Pv i ys H->ys.length<sizeLine)
  (hs:∀ i x ys H,xs[i]? = some x->Pv i ys H->tt (S x) H fun b H2=>if b=true then te (S x) H2 fun y H3=>Pv (i+1) (ys++[y]) H3 else Pv (i+1) ys H2)
  (hd:∀ ys H,Pv xs.length ys H->Fin ys H):CompW (Itt K a) S tt te H Fin:=by
 refine ⟨fun i m ys H=>m=xs.length-i/\i<=xs.length/\Pv i ys H,⟨xs.length,by simp,Nat.zero_le _,h0⟩,?_⟩
 rintro i m ys H ⟨rfl,hi,p⟩
 have q:=hl i ys H hi p
 by_cases hlt:i<xs.length
 ·refine .inr ⟨⟨xs,xs[i],q,by simp [hlt]⟩,hz i ys H hlt p,Pv (i+1),fun ys' H' p'=>⟨xs.length-(i+1),by lia,rfl,hlt,p'⟩,fun x H' y=>?_⟩
  obtain ⟨e,y⟩:=y
  subst e
  exact hs i x ys _ (y xs q) p
 ·have e:i=xs.length:=by lia
  subst e
  exact .inl ⟨⟨xs,q,Nat.le_refl _⟩,hd ys H p⟩
end
structure TopD(w:World)(K:PySem.W.Frag)(a:Addr)(kvs:List (Str×V)):Prop where
 ex:∃ es n,K.lookup a=some ⟨.type "dict",none,.dict es n,#[]⟩/\PySem.W.KeysLit w.params es.toList/\Paired (fun (p:Str×V) (e:DictEntry)=>(∃ t,e.key = .str p.1 t)/\RelV p.2 e.val) kvs es.toList
 lo:(a == sysModules)=false
theorem top_find{x:Str}:∀ {kvs:List (Str×V)} {l:List DictEntry},Paired (fun (p:Str×V) (e:DictEntry)=>(∃ t,e.key = .str p.1 t)/\RelV p.2 e.val) kvs l ->
  RelO (kvs.lookup x) ((l.find? fun e=>Value.isStrOf x e.key).map (·.val))
 | _,_,.nil=>trivial
 | (k,v)::kvs,e::l,.cons ⟨⟨t,ek⟩,rv⟩ r=>by
  rw [List.lookup_cons,List.find?_cons]
  have hk:Value.isStrOf x e.key=(x == k):=by
   rw [ek]
   show (k == x)=(x == k)
   by_cases hx:x=k
   ·subst hx;rfl
   ·have h1:(x == k)=false:=by simpa using hx
    have h2:(k == x)=false:=by simpa using fun z=>hx (Eq.symm z)
    rw [h1,h2]
  rw [hk]
  cases hx:x == k with
  | true=>exact rv
  | false=>exact top_find r
theorem TopD.find{w:World}{K:PySem.W.Frag}{a:Addr}{kvs:List (Str×V)}(D:TopD w K a kvs)(x:Str):∃ es n,K.lookup a=some ⟨.type "dict",none,.dict es n,#[]⟩/\PySem.W.KeysLit w.params es.toList/\RelO (kvs.lookup x) (findBy Value.isStrOf es x):=by
 obtain ⟨es,n,h1,h2,h3⟩:=D.ex
 refine ⟨es,n,h1,h2,?_⟩
 have q:=top_find (x:=x) h3
 unfold findBy
 rw [<-Array.find?_toList]
 exact q
section
variable {X:Cx} {a:Addr} {kvs:List (Str×V)}
theorem ix_top(D:TopD X.w X.K a kvs):IxR X (fun x y H Q=>∃ z v,x = .ref a/\y = .str z/\kvs.lookup z=some v/\Q v H):=by
 intro value slice pins s σ H x y v u Q I rx ry h hs
 obtain ⟨z,r,rfl,rfl,hz,q⟩:=h
 cases rx
 obtain ⟨t,rfl⟩:=ry
 obtain ⟨es,n,h1,h2,h3⟩:=D.find z
 rw [hz] at h3
 obtain ⟨u,hu,ru⟩:=RelO.some_of h3
 have hm:=PySem.W.mapOf_K (prog:=X.prog) (w:=X.w) I.kIn h1 h2
 exact tail_any hm.typeIs slot_dict_getitem.lookup (wpAny_getItem_of (strKind_is _ _ z t) hm hu ⟨r,H,I.tok _,ru,q⟩) hs
end
def constV:Expr->Option V
 | .Constant (.str x) _ _=>some (.str x)
 | .Constant (.int i) _ _=>some (.int i)
 | .Constant (.bool b) _ _=>some (.bl b)
 | .Constant .none _ _=>some .non
 | _=>none
def constsV:List Expr->Option (List V)
 | []=>some []
 | e::r=>match constV e,constsV r with
  | some v,some vs=>some (v::vs)
  | _,_=>none
def tVals(vs:List V):TA:=fun _ H Q=>Q vs H
theorem pa_consts{X:Cx}:∀ {es:List Expr} {vs:List V},constsV es=some vs->PA X es (tVals vs)
 | [],vs,h=>by
  cases h
  exact z_e
 | e::r,vs,h=>by
  unfold constsV at h
  cases he:constV e with
  | none=>rw [he] at h;cases h
  | some v =>
   cases hr:constsV r with
   | none=>rw [he,hr] at h;cases h
   | some ws =>
    rw [he,hr] at h
    have h':v::ws=vs:=Option.some.inj h
    subst h'
    have ih:=pa_consts (X:=X) hr
    unfold constV at he
    split at he
    ·cases he
     exact z_a (te:=tC (.str _)) z_z ih
    ·cases he
     exact z_a (te:=tC (.int _)) z_f ih
    ·cases he
     exact z_a (te:=tC (.bl _)) pe_bl ih
    ·cases he
     exact z_a (te:=tC .non) pe_non ih
    ·cases he
@[irreducible] def bigL(es:List Expr)(pos:Pos):Expr:=.List es pos
@[irreducible] def bigT(es:List Expr)(k:Nat)(pos:Pos):Expr:=.Tuple es k pos
theorem bigL_eq(a b c d e:Expr)(es:List Expr)(pos:Pos):Expr.List (a::b::c::d::e::es) pos=bigL (a::b::c::d::e::es) pos:=by unfold bigL;rfl
theorem bigT_eq(a b c d e:Expr)(es:List Expr)(k:Nat)(pos:Pos):Expr.Tuple (a::b::c::d::e::es) k pos=bigT (a::b::c::d::e::es) k pos:=by unfold bigT;rfl
theorem pe_consts{X:Cx}{es:List Expr}{vs:List V}(h:constsV es=some vs)(pos:Pos):PE X (.List es pos) (tLst (tVals vs)):=pe_lst (pa_consts h)
theorem pe_bigL{X:Cx}{es:List Expr}{vs:List V}{pos:Pos}(h:constsV es=some vs):PE X (bigL es pos) (tLst (tVals vs)):=by
 unfold bigL
 exact pe_consts h pos
end L2
namespace L2
open PySem PySem.Spec PyProof.Rows PySem.SeqAt
mutual
def RdD(K:PySem.W.Frag)(H:Hp):PyData->V->Prop
 | .none,v=>v = .non
 | .bool b,v=>v = .bl b
 | .int i,v=>v = .int i
 | .str x,v=>v = .str x
 | .list ds,v=>∃ p xs,v = .ref p/\SqL K H p xs/\RdDs K H ds xs
 | .tuple ds,v=>∃ p xs,v = .ref p/\SqT K H p xs/\RdDs K H ds xs
 | .dict _,_=>False
def RdDs(K:PySem.W.Frag)(H:Hp):List PyData->List V->Prop
 | [],xs=>xs=[]
 | d::ds,xs=>∃ x r,xs=x::r/\RdD K H d x/\RdDs K H ds r
end
section
variable {K:PySem.W.Frag} {H H':Hp}
theorem RdDs.ints(ns:List Int):RdDs K H (ns.map PyData.int) (ns.map V.int):=by
 induction ns with
 | nil=>unfold RdDs;rfl
 | cons n r ih =>
  show RdDs K H (PyData.int n::r.map PyData.int) (V.int n::r.map V.int)
  unfold RdDs
  exact ⟨_,_,rfl,by unfold RdD;rfl,ih⟩
theorem RdDs.cons{d:PyData}{ds:List PyData}{x:V}{xs:List V}(h:RdD K H d x)(r:RdDs K H ds xs):RdDs K H (d::ds) (x::xs):=by
 unfold RdDs
 exact ⟨x,xs,rfl,h,r⟩
theorem RdDs.nil:RdDs K H [] []:=by unfold RdDs;rfl
theorem RdD.int(i:Int):RdD K H (.int i) (.int i):=by unfold RdD;rfl
theorem RdD.bl(i:Bool):RdD K H (.bool i) (.bl i):=by unfold RdD;rfl
theorem RdD.str(i:Str):RdD K H (.str i) (.str i):=by unfold RdD;rfl
theorem RdD.non:RdD K H .none .non:=by unfold RdD;rfl
theorem RdD.lst{ds:List PyData}{p:Addr}{xs:List V}(h:SqL K H p xs)(r:RdDs K H ds xs):RdD K H (.list ds) (.ref p):=by
 unfold RdD
 exact ⟨p,xs,rfl,h,r⟩
theorem RdD.tup{ds:List PyData}{p:Addr}{xs:List V}(h:SqT K H p xs)(r:RdDs K H ds xs):RdD K H (.tuple ds) (.ref p):=by
 unfold RdD
 exact ⟨p,xs,rfl,h,r⟩
end
def Cmp(n:Nat)(d:PyData):Prop:=d.canLay0=true/\d.depth<=n
theorem Cmp.int{n:Nat}(i:Int):Cmp n (.int i):=⟨by simp [PyData.canLay0],by simp [PyData.depth]⟩
theorem cmpAll{n:Nat}:∀ {ds:List PyData},(∀ d∈ds,Cmp n d)->PyData.canLayAll0 ds=true/\PyData.depthAll ds<=n
 | [],_=>⟨by simp [PyData.canLayAll0],by simp [PyData.depthAll]⟩
 | d::ds,h=>by
  obtain ⟨h1,h2⟩:=h d List.mem_cons_self
  obtain ⟨h3,h4⟩:=cmpAll (ds:=ds) fun e he=>h e (List.mem_cons_of_mem _ he)
  refine ⟨by simp [PyData.canLayAll0,h1,h3],?_⟩
  simp only [PyData.depthAll]
  lia
theorem Cmp.list{n:Nat}{ds:List PyData}(h:∀ d∈ds,Cmp n d):Cmp (n+1) (.list ds):=by
 obtain ⟨h1,h2⟩:=cmpAll h
 exact ⟨by simp [PyData.canLay0,h1],by simp only [PyData.depth];lia⟩
theorem Cmp.tuple{n:Nat}{ds:List PyData}(h:∀ d∈ds,Cmp n d):Cmp (n+1) (.tuple ds):=by
 obtain ⟨h1,h2⟩:=cmpAll h
 exact ⟨by simp [PyData.canLay0,h1],by simp only [PyData.depth];lia⟩
theorem Cmp.mono{n m:Nat}{d:PyData}(h:Cmp n d)(l:n<=m):Cmp m d:=⟨h.1,Nat.le_trans h.2 l⟩
theorem Cmp.ints{n:Nat}(ns:List Int):∀ d∈ns.map PyData.int,Cmp n d:=fun d hd=>by
 obtain ⟨i,_,rfl⟩:=List.mem_map.mp hd
 exact .int i
mutual
theorem eqv_self:∀ {d:PyData},d.canLay0=true->PyData.eqv d d=true
 | .none,_=>by simp [PyData.eqv]
 | .bool _,_=>by simp [PyData.eqv]
 | .int _,_=>by simp [PyData.eqv]
 | .str _,_=>by simp [PyData.eqv]
 | .list ds,h=>by
  rw [PyData.eqv]
  exact eqvAll_self (by simpa [PyData.canLay0] using h)
 | .tuple ds,h=>by
  rw [PyData.eqv]
  exact eqvAll_self (by simpa [PyData.canLay0] using h)
 | .dict _,h=>by simp [PyData.canLay0] at h
theorem eqvAll_self:∀ {ds:List PyData},PyData.canLayAll0 ds=true->PyData.eqvAll ds ds=true
 | [],_=>by simp [PyData.eqvAll]
 | d::ds,h=>by
  have h':(PyData.canLay0 d&&PyData.canLayAll0 ds)=true:=by simpa [PyData.canLayAll0] using h
  obtain ⟨h1,h2⟩:=Bool.and_eq_true_iff.mp h'
  rw [PyData.eqvAll,eqv_self h1,eqvAll_self h2]
  rfl
end
section
variable {X:Cx} {pins:List (Addr×Obj)} {σ:St} {H:Hp} {s:Shared}
mutual
theorem Inv.reads(I:Inv X pins σ H s):∀ {d:PyData} {x:V} {v:Value},RdD X.K H d x->RelV x v->∃ as,Reads s.heap v d as
 | .none,_,_,h,r=>by unfold RdD at h;subst h;cases r;exact ⟨_,.none⟩
 | .bool b,_,_,h,r=>by unfold RdD at h;subst h;cases r;exact ⟨_,.bool b⟩
 | .int i,_,_,h,r=>by unfold RdD at h;subst h;obtain ⟨t,rfl⟩:=r;exact ⟨_,.int i t⟩
 | .str i,_,_,h,r=>by unfold RdD at h;subst h;obtain ⟨t,rfl⟩:=r;exact ⟨_,.str i t⟩
 | .list ds,_,_,h,r=>by
  unfold RdD at h
  obtain ⟨p,xs,rfl,h2,h3⟩:=h
  cases r
  obtain ⟨its,rv,⟨o,n,e1,e2,e3,e4⟩,_⟩:=I.list h2
  obtain ⟨as,ra⟩:=Inv.readsAll I h3 rv
  exact ⟨_,.list e1 e2 e4 (by simpa using ra)⟩
 | .tuple ds,_,_,h,r=>by
  unfold RdD at h
  obtain ⟨p,xs,rfl,h2,h3⟩:=h
  cases r
  obtain ⟨its,rv,⟨o,e1,e2,n,e4⟩,_⟩:=I.tuple h2
  obtain ⟨as,ra⟩:=Inv.readsAll I h3 rv
  exact ⟨_,.tuple e1 e2 e4 (by simpa using ra)⟩
 | .dict _,_,_,h,_=>by unfold RdD at h;exact h.elim
theorem Inv.readsAll(I:Inv X pins σ H s):∀ {ds:List PyData} {xs:List V} {vs:List Value},RdDs X.K H ds xs->Vals xs vs->∃ as,ReadsAll s.heap vs ds as
 | [],_,_,h,r=>by unfold RdDs at h;subst h;cases r;exact ⟨_,.nil⟩
 | d::ds,_,_,h,r=>by
  unfold RdDs at h
  obtain ⟨x,q,rfl,h2,h3⟩:=h
  cases r with
  | cons r1 r2 =>
   obtain ⟨as,ra⟩:=Inv.reads I h2 r1
   obtain ⟨bs,rb⟩:=Inv.readsAll I h3 r2
   exact ⟨_,.cons ra rb⟩
end
def rEqD(K:PySem.W.Frag)(no:Bool):R2:=fun x y H Q=>∃ dx dy,RdD K H dx x/\RdD K H dy y/\Cmp 64 dx/\Cmp 64 dy/\Q (.bl (no ^^ PyData.eqv dx dy)) H
theorem Cmp.shaped{d:PyData}(h:Cmp 64 d):shaped d=true:=by
 unfold SeqAt.shaped
 rw [h.1,decide_eq_true h.2]
 rfl
theorem op_eqD(hu:X.A.units+64<cLine):OpR X (compareOp .Eq) (rEqD X.K false):=by
 intro pins s σ H x y v u Q I rx ry h
 obtain ⟨dx,dy,hx,hy,cx,cy,q⟩:=h
 obtain ⟨as,ra⟩:=I.reads hx rx
 obtain ⟨bs,rb⟩:=I.reads hy ry
 rw [Bool.false_xor] at q
 exact compareEq_shaped ra rb cx.shaped cy.shaped hu ⟨.bl _,H,I,rfl,q⟩
theorem op_neD(hu:X.A.units+64<cLine):OpR X (compareOp .NotEq) (rEqD X.K true):=by
 intro pins s σ H x y v u Q I rx ry h
 obtain ⟨dx,dy,hx,hy,cx,cy,q⟩:=h
 obtain ⟨as,ra⟩:=I.reads hx rx
 obtain ⟨bs,rb⟩:=I.reads hy ry
 rw [Bool.true_xor] at q
 exact compareNe_shaped ra rb cx.shaped cy.shaped hu ⟨.bl _,H,I,rfl,q⟩
end
theorem rEqD.eq{K:PySem.W.Frag}{x y:V}{H:Hp}{Q:VK}{no:Bool}(d:PyData)(hx:RdD K H d x)(hy:RdD K H d y)(c:Cmp 64 d)(q:Q (.bl (!no)) H):rEqD K no x y H Q :=
 ⟨d,d,hx,hy,c,c,by rw [eqv_self c.1,Bool.xor_true];exact q⟩
open PySem PySem.Spec PyProof.Rows
section
variable {X:Cx} {K:PySem.W.Frag} (h:X.K=K)
include h
theorem ix_listK:IxR X (rIxL K):=by subst h;exact z_o
theorem ix_tupK:IxR X (rIxT K):=by subst h;exact z_w
theorem call_list_ofK:CallR X (.type "list") (fun xs H Q=>∃ p ys,xs=[.ref p]/\(SqL K H p ys\/SqT K H p ys)/\∀ l,H l=none->Q (.ref l) (upd H l (.lst ys))):=by subst h;exact call_list_of
end
end L2
namespace L2
open PySem PySem.Spec
theorem z_d{H:Hp}{p:Addr}(h:H p=none)(o:HO):Same H (upd H p o):=fun b u q=>by rw [z_s (z_n q h)];exact q
theorem sameUpd{H H':Hp}{p:Addr}(s:Same H H')(n:H p=none)(o:HO):Same H (upd H' p o):=fun b u q=>by rw [z_s (z_n q n)];exact s b u q
theorem small{n:Nat}(h:n<=100000):n<=sizeLine:=Nat.le_trans h (by decide)
theorem y_j{n:Nat}(h:n<=100000):n<sizeLine:=Nat.lt_of_le_of_lt h (by decide)
theorem at_ints{ns:List Int}{i:Int}(h0:0<=i)(h:i<ns.length):∃ v:Int,atI (ns.map V.int) i=some (.int v)/\v∈ns/\v=ns.getD i.toNat 0:=by
 obtain ⟨k,rfl⟩:=Int.eq_ofNat_of_zero_le h0
 have hk:k<ns.length:=by lia
 refine ⟨ns[k],z_u (by rw [List.getElem?_map,List.getElem?_eq_getElem hk]<;>rfl),List.getElem_mem hk,?_⟩
 rw [Int.toNat_natCast,List.getD_eq_getElem?_getD,List.getElem?_eq_getElem hk]
 rfl
def Drawn(rs:List Int):Prop:=∀ r∈rs,0<=r/\r<1000000
def PrsR(H:Hp)(b:Addr)(rs:List Addr)(ps:List (Int×Int)):Prop:=H b=some (.lst (rs.map V.ref))/\Paired (fun r (p:Int×Int)=>H r=some (.tup [.int p.1,.int p.2])) rs ps
theorem z_r{α β:Type}{R S:α->β->Prop}(h:∀ a b,R a b->S a b):∀ {xs:List α} {ys:List β},Paired R xs ys->Paired S xs ys
 | _,_,.nil=>.nil
 | _,_,.cons a b=>.cons (h _ _ a) (z_r h b)
theorem pairedSnoc{α β:Type}{R:α->β->Prop}{x:α}{y:β}(h:R x y):∀ {xs:List α} {ys:List β},Paired R xs ys->Paired R (xs++[x]) (ys++[y])
 | _,_,.nil=>.cons h .nil
 | _,_,.cons a b=>.cons a (pairedSnoc h b)
theorem pairedApp{α β:Type}{R:α->β->Prop}{us:List α}{vs:List β}(h:Paired R us vs):∀ {xs:List α} {ys:List β},Paired R xs ys->Paired R (xs++us) (ys++vs)
 | _,_,.nil=>h
 | _,_,.cons a b=>.cons a (pairedApp h b)
theorem pairsNew{H:Hp}{t:Addr}{bs:List Addr}{qs:List (Int×Int)}(x y:Int)(hB:Paired (fun r (p:Int×Int)=>H r=some (.tup [.int p.1,.int p.2])) bs qs)(ht:H t=none) :
  Paired (fun r (p:Int×Int)=>upd H t (.tup [.int x,.int y]) r=some (.tup [.int p.1,.int p.2])) (bs++[t]) (qs++[(x,y)]) :=
 pairedSnoc (R:=fun r (p:Int×Int)=>upd H t (.tup [.int x,.int y]) r=some (.tup [.int p.1,.int p.2])) z_c (z_r (fun r p q=>by rw [z_s (z_n q ht)];exact q) hB)
theorem PrsR.same{H H':Hp}{b:Addr}{rs:List Addr}{ps:List (Int×Int)}(s:Same H H')(h:PrsR H b rs ps):PrsR H' b rs ps:=⟨s _ _ h.1,z_r (fun r p q=>s _ _ q) h.2⟩
theorem PrsR.length{H:Hp}{b:Addr}{rs:List Addr}{ps:List (Int×Int)}(h:PrsR H b rs ps):rs.length=ps.length:=Paired.length h.2
theorem PrsR.get{H:Hp}{b:Addr}{rs:List Addr}{ps:List (Int×Int)}(h:PrsR H b rs ps){i:Nat}(hi:i<ps.length):∃ r,(rs.map V.ref)[i]? = some (.ref r)/\H r=some (.tup [.int ps[i].1,.int ps[i].2]):=by
 obtain ⟨hb,h⟩:=h
 clear hb
 induction h generalizing i with
 | nil=>exact absurd hi (Nat.not_lt_zero _)
 | cons a r ih =>
  cases i with
  | zero=>exact ⟨_,rfl,a⟩
  | succ k =>
   obtain ⟨q,h1,h2⟩:=ih (i:=k) (by simpa using hi)
   exact ⟨q,by simpa using h1,by simpa using h2⟩
def Prs(H:Hp)(b:Addr)(ps:List (Int×Int)):Prop:=∃ rs,PrsR H b rs ps
theorem PrsR.mk{H:Hp}{a:Addr}{rs:List Addr}{ps:List (Int×Int)}(h:Paired (fun r (p:Int×Int)=>H r=some (.tup [.int p.1,.int p.2])) rs ps)(n:H a=none):PrsR (upd H a (.lst (rs.map V.ref))) a rs ps :=
 ⟨z_c,z_r (fun r x q=>(z_d n _) _ _ q) h⟩
theorem cut_from{xs:List V}{n:Nat}(h:n<=xs.length):cutV xs (some (n:Int)) none=xs.drop n:=by
 unfold cutV
 rw [HT.sIx_nat,HT.sIx_none,Nat.min_eq_left h,List.take_of_length_le (by rw [List.length_drop];lia)]
theorem cut_to{xs:List V}{n:Nat}(h:n<=xs.length):cutV xs none (some (n:Int))=xs.take n:=by
 unfold cutV
 rw [HT.sIx_nat,HT.sIx_none,Nat.min_eq_left h,List.drop_zero,Nat.sub_zero]
theorem z_i{c:Bool}{A B:Prop}(h:c=false)(q:B):if c=true then A else B:=by rw [h];exact q
theorem y_k{c:Bool}{A B:Prop}(h:c=true)(q:A):if c=true then A else B:=by rw [h];exact q
theorem rdInts{K:PySem.W.Frag}{H:Hp}{p:Addr}{ns:List Int}(h:H p=some (.lst (ns.map V.int))):RdD K H (.list (ns.map PyData.int)) (.ref p):=RdD.lst (SqL.of h) (RdDs.ints _)
section
variable {K:PySem.W.Frag} {a:Addr} {S:V->St} {te:TE} {H:Hp} {Fin:List V->Hp->Prop}
theorem comp_prs_map{rs:List Addr}{ps:List (Int×Int)}(f:Int×Int->V)(hP:PrsR H a rs ps)(hz:ps.length<=100000)
  (hs:∀ p∈ps,∀ r,H r=some (.tup [.int p.1,.int p.2])->∀ N:V->Hp->Prop,N (f p) H->te (S (.ref r)) H N) (hd:Fin (ps.map f) H):CompW (Itl K a) S tYes te H Fin:=by
 have hl:(rs.map V.ref).length=ps.length:=by rw [List.length_map,hP.length]
 refine comp_list (xs:=rs.map V.ref) (fun i ys H'=>ys=(ps.take i).map f/\H=H') ⟨rfl,rfl⟩ ?_ ?_ ?_ ?_
 ·rintro i ys H' _ ⟨_,rfl⟩
  exact SqL.of hP.1
 ·rintro i ys H' hi ⟨rfl,_⟩
  rw [List.length_map,List.length_take]
  exact y_j (by lia)
 ·rintro i x ys H' hx ⟨rfl,rfl⟩
  obtain ⟨hi,_⟩:=List.getElem?_eq_some_iff.mp hx
  rw [hl] at hi
  obtain ⟨r,h1,h2⟩:=hP.get hi
  rw [h1] at hx
  cases hx
  unfold tYes
  dsimp only
  rw [if_pos rfl]
  refine hs _ (List.getElem_mem hi) r h2 _ ⟨?_,rfl⟩
  rw [List.take_succ_eq_append_getElem hi,List.map_append]
  rfl
 ·rintro ys H' ⟨rfl,rfl⟩
  rw [hl,List.take_length]
  exact hd
end
end L2
namespace L2
open PySem PySem.Spec
theorem at_getD{ns:List Int}{i:Int}(h0:0<=i)(h:i<ns.length):atI (ns.map V.int) i=some (.int (ns.getD i.toNat 0)):=by
 obtain ⟨v,h1,_,h2⟩:=at_ints h0 h
 rw [h1,h2]
end L2
namespace L2
open PySem PySem.Spec
end L2
namespace L2
open PySem PySem.Spec PyProof.Rows
mutual
def Dat(H:Hp):PyData->V->Prop
 | .none,v=>v = .non
 | .bool b,v=>v = .bl b
 | .int i,v=>v = .int i
 | .str x,v=>v = .str x
 | .list ds,v=>∃ p xs,v = .ref p/\H p=some (.lst xs)/\Dats H ds xs
 | .tuple ds,v=>∃ p xs,v = .ref p/\H p=some (.tup xs)/\Dats H ds xs
 | .dict _,_=>False
def Dats(H:Hp):List PyData->List V->Prop
 | [],xs=>xs=[]
 | d::ds,xs=>∃ x r,xs=x::r/\Dat H d x/\Dats H ds r
end
section
variable {H H':Hp}
mutual
theorem Dat.same(e:Same H H'):∀ {d:PyData} {v:V},Dat H d v->Dat H' d v
 | .none,_,h=>by unfold Dat at *;exact h
 | .bool _,_,h=>by unfold Dat at *;exact h
 | .int _,_,h=>by unfold Dat at *;exact h
 | .str _,_,h=>by unfold Dat at *;exact h
 | .list ds,_,h=>by
  unfold Dat at *
  obtain ⟨p,xs,h1,h2,h3⟩:=h
  exact ⟨p,xs,h1,e _ _ h2,Dats.same e h3⟩
 | .tuple ds,_,h=>by
  unfold Dat at *
  obtain ⟨p,xs,h1,h2,h3⟩:=h
  exact ⟨p,xs,h1,e _ _ h2,Dats.same e h3⟩
 | .dict _,_,h=>by unfold Dat at h;exact h.elim
theorem Dats.same(e:Same H H'):∀ {ds:List PyData} {xs:List V},Dats H ds xs->Dats H' ds xs
 | [],_,h=>by unfold Dats at *;exact h
 | d::ds,_,h=>by
  unfold Dats at *
  obtain ⟨x,r,h1,h2,h3⟩:=h
  exact ⟨x,r,h1,Dat.same e h2,Dats.same e h3⟩
end
mutual
theorem Dat.rd{K:PySem.W.Frag}:∀ {d:PyData} {v:V},Dat H d v->RdD K H d v
 | .none,_,h=>by unfold Dat at h;subst h;exact .non
 | .bool _,_,h=>by unfold Dat at h;subst h;exact .bl _
 | .int _,_,h=>by unfold Dat at h;subst h;exact .int _
 | .str _,_,h=>by unfold Dat at h;subst h;exact .str _
 | .list ds,_,h=>by
  unfold Dat at h
  obtain ⟨p,xs,rfl,h2,h3⟩:=h
  exact RdD.lst (SqL.of h2) (Dats.rd h3)
 | .tuple ds,_,h=>by
  unfold Dat at h
  obtain ⟨p,xs,rfl,h2,h3⟩:=h
  exact RdD.tup (SqT.of h2) (Dats.rd h3)
 | .dict _,_,h=>by unfold Dat at h;exact h.elim
theorem Dats.rd{K:PySem.W.Frag}:∀ {ds:List PyData} {xs:List V},Dats H ds xs->RdDs K H ds xs
 | [],_,h=>by unfold Dats at h;subst h;exact .nil
 | d::ds,_,h=>by
  unfold Dats at h
  obtain ⟨x,r,rfl,h2,h3⟩:=h
  exact .cons (Dat.rd h2) (Dats.rd h3)
end
theorem Dat.int(i:Int):Dat H (.int i) (.int i):=by unfold Dat;rfl
theorem Dat.str(x:Str):Dat H (.str x) (.str x):=by unfold Dat;rfl
theorem Dat.tup{ds:List PyData}{p:Addr}{xs:List V}(h:H p=some (.tup xs))(r:Dats H ds xs):Dat H (.tuple ds) (.ref p):=by unfold Dat;exact ⟨p,xs,rfl,h,r⟩
theorem Dats.nil:Dats H [] []:=by unfold Dats;rfl
theorem Dats.cons{d:PyData}{ds:List PyData}{x:V}{xs:List V}(h:Dat H d x)(r:Dats H ds xs):Dats H (d::ds) (x::xs):=by unfold Dats;exact ⟨x,xs,rfl,h,r⟩
theorem Dats.length{ds:List PyData}{xs:List V}(a:Dats H ds xs):ds.length=xs.length:=by
 induction ds generalizing xs with
 | nil=>unfold Dats at a;subst a;rfl
 | cons d r ih =>
  unfold Dats at a
  obtain ⟨x,q,rfl,h1,h2⟩:=a
  simp [ih h2]
theorem Dats.get{ds:List PyData}{xs:List V}(a:Dats H ds xs){i:Nat}{x:V}(h:xs[i]? = some x):∃ d,ds[i]? = some d/\Dat H d x:=by
 induction ds generalizing xs i with
 | nil=>unfold Dats at a;subst a;simp at h
 | cons d r ih =>
  unfold Dats at a
  obtain ⟨y,q,rfl,h1,h2⟩:=a
  cases i with
  | zero=>simp at h;subst h;exact ⟨d,rfl,h1⟩
  | succ k=>exact ih h2 (by simpa using h)
theorem Dats.append{ds es:List PyData}{xs ys:List V}(a:Dats H ds xs)(b:Dats H es ys):Dats H (ds++es) (xs++ys):=by
 induction ds generalizing xs with
 | nil=>unfold Dats at a;subst a;exact b
 | cons d r ih =>
  unfold Dats at a
  obtain ⟨x,q,rfl,h1,h2⟩:=a
  exact .cons h1 (ih h2)
theorem Dats.take{ds:List PyData}{xs:List V}(a:Dats H ds xs)(n:Nat):Dats H (ds.take n) (xs.take n):=by
 induction ds generalizing xs n with
 | nil=>unfold Dats at a;subst a;simp;exact .nil
 | cons d r ih =>
  unfold Dats at a
  obtain ⟨x,q,rfl,h1,h2⟩:=a
  cases n with
  | zero=>exact .nil
  | succ n=>exact .cons h1 (ih h2 n)
theorem Dats.drop{ds:List PyData}{xs:List V}(a:Dats H ds xs)(n:Nat):Dats H (ds.drop n) (xs.drop n):=by
 induction ds generalizing xs n with
 | nil=>unfold Dats at a;subst a;simp;exact .nil
 | cons d r ih =>
  cases n with
  | zero=>exact a
  | succ n =>
   unfold Dats at a
   obtain ⟨x,q,rfl,h1,h2⟩:=a
   exact ih h2 n
end
theorem Dat.tupI{H:Hp}{ds:List PyData}{v:V}(h:Dat H (.tuple ds) v):∃ p xs,v = .ref p/\H p=some (.tup xs)/\Dats H ds xs:=by unfold Dat at h;exact h
theorem Dat.intI{H:Hp}{i:Int}{v:V}(h:Dat H (.int i) v):v = .int i:=by unfold Dat at h;exact h
theorem Dats.consI{H:Hp}{d:PyData}{ds:List PyData}{xs:List V}(h:Dats H (d::ds) xs):∃ x r,xs=x::r/\Dat H d x/\Dats H ds r:=by unfold Dats at h;exact h
theorem Dats.nilI{H:Hp}{xs:List V}(h:Dats H [] xs):xs=[]:=by unfold Dats at h;exact h
open PySem PySem.Spec
def Bag(H:Hp)(l:Addr):Prop:=∃ b0 b1:Int,H l=some (.lst [.int b0,.int b1])/\0<=b0
def Bg(l:Addr)(H H':Hp):Prop:=(∀ b o,b≠l->H b=some o->H' b=some o)/\Bag H' l
theorem Bg.trans{l:Addr}{H H1 H2:Hp}(a:Bg l H H1)(b:Bg l H1 H2):Bg l H H2:=⟨fun c o n e=>b.1 c o n (a.1 c o n e),b.2⟩
theorem Bg.refl{l:Addr}{H:Hp}(b:Bag H l):Bg l H H:=⟨fun _ _ _ e=>e,b⟩
theorem Bag.ne{H:Hp}{l p:Addr}(b:Bag H l)(n:H p=none):p≠l:=fun e=>by
 obtain ⟨_,_,h,_⟩:=b
 rw [e,h] at n;cases n
theorem Bag.neT{H:Hp}{l p:Addr}{xs:List V}(b:Bag H l)(n:H p=some (.tup xs)):p≠l:=fun e=>by
 obtain ⟨_,_,h,_⟩:=b
 rw [e,h] at n;cases n
theorem Bg.new{l p:Addr}{H:Hp}(b:Bag H l)(n:H p=none)(o:HO):Bg l H (upd H p o):=by
 refine ⟨fun c u _ e=>by rw [z_s (z_n e n)];exact e,?_⟩
 obtain ⟨b0,b1,h,h0⟩:=b
 exact ⟨b0,b1,by rw [z_s (z_n h n)];exact h,h0⟩
theorem Bg.put{l:Addr}{H:Hp}(b0 b1:Int)(h0:0<=b0):Bg l H (upd H l (.lst [.int b0,.int b1])) :=
 ⟨fun c u n e=>by rw [z_s n];exact e,b0,b1,z_c,h0⟩
theorem Bag.set{l p:Addr}{H:Hp}(b:Bag H l)(hp:p≠l)(o:HO):Bag (upd H p o) l:=by
 obtain ⟨b0,b1,h,h0⟩:=b
 exact ⟨b0,b1,by rw [z_s (Ne.symm hp)];exact h,h0⟩
theorem Bg.set{l p:Addr}{H H':Hp}(b:Bg l H H')(n:H p=none)(hp:p≠l)(o:HO):Bg l H (upd H' p o) :=
 ⟨fun c u nc e=>by rw [z_s (z_n e n)];exact b.1 c u nc e,b.2.set hp o⟩
theorem Bg.same{l:Addr}{H H1 H2:Hp}(n:H l=none)(a:Same H H1)(b:Bg l H1 H2):Same H H2:=fun c o e=>b.1 c o (z_n e n) (a c o e)
theorem Bag.same{H H':Hp}{l:Addr}(b:Bag H l)(s:Same H H'):Bg l H H':=by
 obtain ⟨b0,b1,h,h0⟩:=b
 exact ⟨fun c o _ e=>s c o e,b0,b1,s _ _ h,h0⟩
theorem at_any{α:Type}{xs:List α}{i:Int}(h0:0<=i)(h:i<xs.length):∃ v,atI xs i=some v/\xs[i.toNat]? = some v:=by
 obtain ⟨k,rfl⟩:=Int.eq_ofNat_of_zero_le h0
 have hk:k<xs.length:=by lia
 exact ⟨xs[k],z_u (List.getElem?_eq_getElem hk),by rw [Int.toNat_natCast];exact List.getElem?_eq_getElem hk⟩
theorem at_map{ns:List Int}{i:Nat}(h:i<ns.length):∃ v:Int,atI (ns.map V.int) (i:Int)=some (.int v) :=
 ⟨ns[i],z_u (by rw [List.getElem?_map,List.getElem?_eq_getElem h]<;>rfl)⟩
theorem at_mapI{ns:List Int}{i:Int}(h0:0<=i)(h:i<ns.length):∃ v:Int,atI (ns.map V.int) i=some (.int v):=by
 obtain ⟨k,rfl⟩:=Int.eq_ofNat_of_zero_le h0
 exact at_map (by lia)
def sp_L_bag(K:PySem.W.Frag):Sp:=fun vs H Q _=>∃ (a:Addr) (ns:List Int) (i:Int),vs=[.ref a,.int i]/\SqL K H a (ns.map V.int)/\ns.length<=63/\0<=i/\∀ l b0 b1,H l=none->(0:Int)<=b0->Q (.ref l) (upd H l (.lst [.int b0,.int b1]))
def sp_L_take:Sp:=fun vs H Q _=>∃ (l:Addr) (many:Int),vs=[.ref l,.int many]/\Bag H l/\0<many/\many<bigB/\∀ d H',0<=d->d<many->Bg l H H'->Q (.int d) H'
def words:List Str:=["wire", "number", "not", "and", "or", "odd", "sum", "less", "under", "same", "choice", "up", "down", "join", "cut", "table"]
def formK(z:Str):Nat:=if z = "wire" then 2 else if z = "number" then 3 else if z = "up" then 2 else if z = "down" then 2 else if z = "cut" then 3 else if z = "table" then 3 else 1
def formN(z:Str):Nat:=if z = "wire" then 2 else if z = "not" then 2 else if z = "choice" then 4 else if z = "cut" then 4 else if z = "table" then 4 else 3
mutual
def noL:PyData->Bool
 | .list _=>false
 | .tuple ds=>noLs ds
 | _=>true
def noLs:List PyData->Bool
 | []=>true
 | d::ds=>noL d&&noLs ds
end
def KeepT(H H':Hp):Prop:=∀ p xs,H p=some (.tup xs)->H' p=some (.tup xs)
mutual
theorem Dat.keepT{H H':Hp}(k:KeepT H H'):∀ {d:PyData} {v:V},noL d=true->Dat H d v->Dat H' d v
 | .none,_,_,h=>by unfold Dat at *;exact h
 | .bool _,_,_,h=>by unfold Dat at *;exact h
 | .int _,_,_,h=>by unfold Dat at *;exact h
 | .str _,_,_,h=>by unfold Dat at *;exact h
 | .list ds,_,n,h=>by simp [noL] at n
 | .tuple ds,_,n,h=>by
  unfold Dat at *
  obtain ⟨p,xs,h1,h2,h3⟩:=h
  exact ⟨p,xs,h1,k _ _ h2,Dats.keepT k (by simpa [noL] using n) h3⟩
 | .dict _,_,_,h=>by unfold Dat at h;exact h.elim
theorem Dats.keepT{H H':Hp}(k:KeepT H H'):∀ {ds:List PyData} {xs:List V},noLs ds=true->Dats H ds xs->Dats H' ds xs
 | [],_,_,h=>by unfold Dats at *;exact h
 | d::ds,_,n,h=>by
  have n':noL d=true/\noLs ds=true:=by simpa [noLs] using n
  unfold Dats at *
  obtain ⟨x,r,h1,h2,h3⟩:=h
  exact ⟨x,r,h1,Dat.keepT k n'.1 h2,Dats.keepT k n'.2 h3⟩
end
theorem KeepT.lst{H:Hp}{p:Addr}{xs:List V}(h:H p=some (.lst xs))(o:HO):KeepT H (upd H p o):=fun q ys e=>by
 rw [z_s (fun z=>by rw [z,h] at e;cases e)]
 exact e
theorem Bg.keepT{l:Addr}{H H':Hp}(b:Bag H l)(g:Bg l H H'):KeepT H H':=fun p xs h=>g.1 p _ (b.neT h) h
theorem noLs_all{ds:List PyData}(h:∀ d∈ds,noL d=true):noLs ds=true:=by
 induction ds with
 | nil=>simp [noLs]
 | cons d r ih=>simp [noLs,h d List.mem_cons_self,ih fun e he=>h e (List.mem_cons_of_mem _ he)]
open PySem PySem.Spec PyProof.Rows
open PySem PySem.Spec
theorem pairedMem{α β:Type}{R S:α->β->Prop}:∀ {xs:List α} {ys:List β},(∀ a b,a∈xs->R a b->S a b)->Paired R xs ys->Paired S xs ys
 | _,_,_,.nil=>.nil
 | _,_,h,.cons a b=>.cons (h _ _ List.mem_cons_self a) (pairedMem (fun x y m q=>h x y (List.mem_cons_of_mem _ m) q) b)
theorem pairedSn{α β:Type}{R:α->β->Prop}{xs us:List α}{ys vs:List β}(p:Paired R xs ys)(q:Paired R us vs):Paired R (xs++us) (ys++vs):=pairedApp q p
theorem pairedGet{α β:Type}{R:α->β->Prop}:∀ {xs:List α} {ys:List β} {i:Nat} {x:α},Paired R xs ys->xs[i]? = some x->∃ y,ys[i]? = some y/\R x y
 | _,_,i,x,.nil,h=>by simp at h
 | _,_,0,x,.cons a b,h=>by
  simp at h
  subst h
  exact ⟨_,rfl,a⟩
 | _,_,i+1,x,.cons a b,h=>by
  rw [List.getElem?_cons_succ] at h ⊢
  exact pairedGet b h
theorem pairedAll{α β:Type}{R:α->β->Prop}:∀ {xs:List α} {ys:List β} {x:α},Paired R xs ys->x∈xs->∃ y,y∈ys/\R x y
 | _,_,x,.cons a b,h=>by
  rcases List.mem_cons.mp h with rfl | q
  ·exact ⟨_,List.mem_cons_self,a⟩
  ·obtain ⟨y,hy,r⟩:=pairedAll b q
   exact ⟨y,List.mem_cons_of_mem _ hy,r⟩
abbrev Pw(H:Hp)(rs:List Addr)(rows:List (List Int)):Prop:=Paired (fun r (x:List Int)=>H r=some (.lst (x.map V.int))) rs rows
def RwsR(H:Hp)(p:Addr)(rs:List Addr)(rows:List (List Int)):Prop:=H p=some (.lst (rs.map V.ref))/\Pw H rs rows
theorem RwsR.same{H H':Hp}{p:Addr}{rs:List Addr}{rows:List (List Int)}(s:Same H H')(h:RwsR H p rs rows):RwsR H' p rs rows:=⟨s _ _ h.1,z_r (fun _ _ q=>s _ _ q) h.2⟩
theorem RwsR.length{H:Hp}{p:Addr}{rs:List Addr}{rows:List (List Int)}(h:RwsR H p rs rows):rs.length=rows.length:=Paired.length h.2
def dRows(rows:List (List Int)):PyData:=.list (rows.map fun x=>.list (x.map PyData.int))
theorem pw_rd{K:PySem.W.Frag}{H:Hp}{rs:List Addr}{rows:List (List Int)}(h:Pw H rs rows):RdDs K H (rows.map fun x=>PyData.list (x.map PyData.int)) (rs.map V.ref):=by
 induction h with
 | nil=>exact RdDs.nil
 | cons a r ih=>exact RdDs.cons (rdInts a) ih
theorem RwsR.rd{K:PySem.W.Frag}{H:Hp}{p:Addr}{rs:List Addr}{rows:List (List Int)}(h:RwsR H p rs rows):RdD K H (dRows rows) (.ref p):=RdD.lst (SqL.of h.1) (pw_rd h.2)
theorem x_i{α:Type}{xs:List α}{i:Nat}{x:α}(h:xs[i]? = some x):xs.take (i+1)=xs.take i++[x]:=by
 obtain ⟨hi,he⟩:=List.getElem?_eq_some_iff.mp h
 rw [List.take_succ_eq_append_getElem hi,he]
theorem cast_pow(r:Nat):((2:Int)^r)=((2^r:Nat):Int):=by rw [Int.natCast_pow];rfl
open PySem
section
variable {X:Cx} {pins:List (Addr×Obj)} {σ:St} {H:Hp} {s:Shared} {h':Heap}
theorem Inv.turnedL{t':Nat}{ch:List Addr}(I:Inv X pins σ H s)(k:∀ b o,b∉ch->s.heap.get? b=some o->h'.get? b=some o)(hc:∀ b∈ch,FpOk X pins H b):Inv X pins σ H { s with heap:=h',toks:=t' }:=by
 have nit:∀ b u,H b=some u->b∉ch:=fun b u e z=>by have:=(hc b z).1;rw [this] at e;cases e
 refine I.step (g':=s.gens) (d':=s.drawn) (ch:=ch) (fun b hb=>?_) (fun b o _ _ hn e _=>k b o hn e) (fun b o _ _ hn e _=>⟨o.slots,k b o hn e⟩) (fun _ _ _ _ n=>n)
  (fun b o hn e=>⟨o,k b o hn e⟩) (fun _ _ e=>e) (fun _ _ _ e=>e) (fun _ _ _ e=>e) (fun m hm=>?_) (fun b u e=>?_) I.bare
 ·obtain ⟨_,f1,_,f3,f4,f5⟩:=hc b hb
  exact ⟨f3,f1,f4,f5⟩
 ·obtain ⟨o,es,ep,ho,r⟩:=hm
  exact ⟨o,es,ep,k _ o (fun z=>(hc _ z).2.1 rfl) ho,r⟩
 ·refine (I.hok b u e).stay (fun c v hn q=>k c v ?_ q) (fun _ q=>q) (fun _ _ q=>q) fun _ _ _ q=>q
  rcases hn with z | z
  ·rw [z];exact nit b u e
  ·exact nit c _ z
end
def Itz(K : PySem.W.Frag)(a b : Addr) : It :=
  ⟨fun i H => ∃ xs ys x y, SqL K H a xs /\ SqL K H b ys /\ xs[i]? = some x /\ ys[i]? = some y,
   fun i H v H' => ∃ p x y, v = .ref p /\ H p = none /\ H' = upd H p (.tup [x, y]) /\ (∀ xs, SqL K H a xs -> xs[i]? = some x) /\ ∀ ys, SqL K H b ys -> ys[i]? = some y,
   fun i H => ∃ xs ys, SqL K H a xs /\ SqL K H b ys /\ (xs.length <= i \/ ys.length <= i)⟩
theorem turn_zip{P:Program}{w:World}{K:PySem.W.Frag}{elts:List Expr}{kk:Nat}{pos:Pos}(a b z TI TO i1 i2:Addr)(D:ZipApart z TI TO i1 i2 a b) :
  Turn P w K (.Tuple elts kk pos) (Itz K a b) [z,TI,TO,i1,i2] z (fun i h=>IsZip h z TI TO .none/\IsPair h TI (.ref i1) (.ref i2)/\(∃ c d,IsPair h TO c d)/\h.IsListIter i1 a i/\h.IsListIter i2 b i) where
 mem:=by simp
 obj:=fun i h st c hc=>by
  obtain ⟨h1,h2,⟨x,y,h3⟩,⟨o4,e4,c4,d4⟩,⟨o5,e5,c5,d5⟩⟩:=st
  have hc':c=z\/c=TI\/c=TO\/c=i1\/c=i2:=by simpa using hc
  rcases hc' with rfl | rfl | rfl | rfl | rfl
  ·exact ⟨_,h1,fun v q=>by cases q⟩
  ·exact ⟨_,h2,fun v q=>by cases q⟩
  ·exact ⟨_,h3,fun v q=>by cases q⟩
  ·exact ⟨o4,e4,fun v q=>by rw [d4] at q;cases q⟩
  ·exact ⟨o5,e5,fun v q=>by rw [d5] at q;cases q⟩
 keep:=fun i h h' st k=>by
  obtain ⟨h1,h2,⟨x,y,h3⟩,h4,h5⟩:=st
  exact ⟨k z (by simp) _ h1,k TI (by simp) _ h2,⟨x,y,k TO (by simp) _ h3⟩,h4.at fun o e=>k i1 (by simp) o e,h5.at fun o e=>k i2 (by simp) o e⟩
 item:=by
  intro X hP hw hK hc i pins s σ H E I hf st hg
  subst hP hw hK
  obtain ⟨xs,ys,x,y,hq1,hq2,hx,hy⟩:=hg
  obtain ⟨its1,rv1,p1,hz1⟩:=I.list hq1
  obtain ⟨its2,rv2,p2,hz2⟩:=I.list hq2
  obtain ⟨u1,hu1,ru1⟩:=rv1.get hx
  obtain ⟨u2,hu2,ru2⟩:=rv2.get hy
  obtain ⟨sz,sTI,⟨c,d,sTO⟩,s1,s2⟩:=st
  refine wpAny_pyNext_zip_item D sz sTI sTO s1 s2 p1.isList p2.isList (x:=u1) (y:=u2) (by simpa using hu1) (by simpa using hu2) fun h' b1 b2 b3 b4 b5 b6 hk=>?_
  have lt:∀ {c o},s.heap.get? c=some o->c≠s.heap.objs.size:=fun e=>Nat.ne_of_lt (Heap.lt_size e)
  have I0:Inv X pins σ (upd H s.heap.objs.size (.tup [x,y])) { s with heap:=s.heap.push { cls:=.type "tuple",data:=.seq #[u1,u2] },toks:=s.toks } :=
   I.laid (a:=s.heap.objs.size) (o:=.tup [x,y]) (t':=s.toks) (fun b u e=>Heap.get?_push_of_some _ e) (Nat.le_refl _) ⟨(by show 2<=sizeLine;decide),[u1,u2],.cons ru1 (.cons ru2 .nil),_,Heap.get?_push_size _ rfl,rfl,_,rfl⟩
  have hnone:∀ c∈[z,TI,TO,i1,i2],(upd H s.heap.objs.size (.tup [x,y])) c=none:=fun c hc'=>by
   have hne:c≠s.heap.objs.size:=by
    have hc'':c=z\/c=TI\/c=TO\/c=i1\/c=i2:=by simpa using hc'
    rcases hc'' with rfl | rfl | rfl | rfl | rfl
    ·exact lt sz
    ·exact lt sTI
    ·exact lt sTO
    ·obtain ⟨_,e,_⟩:=s1;exact lt e
    ·obtain ⟨_,e,_⟩:=s2;exact lt e
   rw [z_s hne]
   exact (hf c hc').1
  have hf':∀ c∈[z,TI,TO,i1,i2],FpOk X pins (upd H s.heap.objs.size (.tup [x,y])) c:=fun c hc'=>⟨hnone c hc',(hf c hc').2⟩
  have kk1:∀ c o,c∉[z,TO,i1,i2]->(s.heap.push { cls:=.type "tuple",data:=.seq #[u1,u2] }).get? c=some o->h'.get? c=some o:=fun c o hn e=>by
   rcases Heap.get?_push_cases e with ⟨rfl,rfl⟩ | e'
   ·exact b5
   ·exact hk c o (fun q=>hn (by simp [q])) (fun q=>hn (by simp [q])) (fun q=>hn (by simp [q])) (fun q=>hn (by simp [q])) e'
  have kk2:∀ c∈[z,TO,i1,i2],FpOk X pins (upd H s.heap.objs.size (.tup [x,y])) c:=fun c hc'=>hf' c (by
   have hc'':c=z\/c=TO\/c=i1\/c=i2:=by simpa using hc'
   rcases hc'' with rfl | rfl | rfl | rfl<;>simp)
  have I1:=I0.turnedL (h':=h') (t':=s.toks) (ch:=[z,TO,i1,i2]) kk1 kk2
  refine ⟨_,rfl,wpAny_letOwnedTupleGo_zip b1 fun h2 c1 c2=>?_⟩
  have I2:=I1.turnedL (h':=h2) (t':=s.toks) (ch:=[z]) (fun c o hn e=>(c2.2 c (fun q=>hn (by simp [q]))).trans e) (fun c hc'=>hf' c (by rw [List.mem_singleton.mp hc'];simp))
  refine ⟨.ref s.heap.objs.size,_,I2,rfl,⟨_,x,y,rfl,I.hok.fresh (Nat.le_refl _),rfl,fun xs' q=>by rw [I.list_inj q hq1];exact hx,fun ys' q=>by rw [I.list_inj q hq2];exact hy⟩,?_,hnone⟩
  have mv:∀ c o,c≠z->h'.get? c=some o->h2.get? c=some o:=fun c o hn e=>(c2.2 c hn).trans e
  exact ⟨c1,mv _ _ D.TIz (hk _ _ D.TIz D.TITO D.TIi1 D.TIi2 sTI),⟨_,_,mv _ _ D.TOz b2⟩,b3.at fun o e=>mv _ o D.i1z e,b4.at fun o e=>mv _ o D.i2z e⟩
 done:=by
  intro X hP hw hK hc i pins s σ H E I hf st hg
  subst hP hw hK
  obtain ⟨xs,ys,hq1,hq2,hx⟩:=hg
  obtain ⟨its1,rv1,p1,hz1⟩:=I.list hq1
  obtain ⟨its2,rv2,p2,hz2⟩:=I.list hq2
  have l1:=rv1.length
  have l2:=rv2.length
  obtain ⟨sz,sTI,⟨c,d,sTO⟩,s1,s2⟩:=st
  refine wpAny_pyNext_zip_end (I.ok.hd hc) D sz sTI sTO s1 s2 p1.isList p2.isList ?_ fun h' hk=>⟨rfl,I.turnedL (t':=s.toks) (ch:=[z,TO,i1,i2]) (fun c o hn e=>hk c o (fun q=>hn (by simp [q])) (fun q=>hn (by simp [q])) (fun q=>hn (by simp [q])) (fun q=>hn (by simp [q])) e) (fun c hc'=>hf c ?_)⟩
  ·rcases hx with q | q
   ·exact .inl (by simp;lia)
   ·exact .inr (by simp;lia)
  ·have hc'':c=z\/c=TO\/c=i1\/c=i2:=by simpa using hc'
   rcases hc'' with rfl | rfl | rfl | rfl<;>simp
 self:=fun _ _ _ _ _ st h=>wpAny_pyIter_zip st.1 h
def iZip(K:PySem.W.Frag)(ta:TA):TI:=fun σ H R=>ta σ H fun vs H1=>∃ a b,vs=[.ref a,.ref b]/\(∃ xs,SqL K H1 a xs)/\(∃ ys,SqL K H1 b ys)/\R (Itz K a b) H1
theorem pi_zip{X:Cx}{elts:List Expr}{kk:Nat}{tpos:Pos}{a b:Expr}{ta:TA}{p pos:Pos}(hg:Gl X "zip")(hm:X.mg "zip" = none)(ha:PA X [a,b] ta)(hs:starEach [a,b] X.env=[(false,eval a X.env),(false,eval b X.env)]:=by rfl)(hs2:starEach [b] X.env=[(false,eval b X.env)]:=by rfl) :
  PI X (.Tuple elts kk tpos) (.Call (.Name "zip" p) [a,b] [] pos) (iZip X.K ta):=by
 intro pins s σ H R I h
 refine Call_ (ld_blt I hg hm PyProof.Rows.boot_zip (PyProof.Rows.callWith_type1 (thn (ha pos pins s σ H _ I h) fun us s1 ⟨vs,H1,I1,r1,q1⟩=>?_) (by rw [hs,hs2]) (by rw [hs2];rfl)))
 obtain ⟨l1,l2,e,⟨xs,hq1⟩,⟨ys,hq2⟩,q⟩:=q1
 subst e
 cases r1 with
 | cons r rr =>
  cases rr with
  | cons r' rr =>
   cases rr
   cases r
   cases r'
   obtain ⟨its1,rv1,p1,hz1⟩:=I1.list hq1
   obtain ⟨its2,rv2,p2,hz2⟩:=I1.list hq2
   have hlt1 : @LT.lt Nat _ l1 s1.heap.objs.size:=by obtain ⟨o,e,_⟩:=p1.isList;exact Heap.lt_size e
   have hlt2 : @LT.lt Nat _ l2 s1.heap.objs.size:=by obtain ⟨o,e,_⟩:=p2.isList;exact Heap.lt_size e
   refine call_zip_2 p1.isList p2.isList fun h' hz hTI hTO hi1 hi2 hsz hk=>wpAny_pyIter_zip hz ?_
   have D:ZipApart (s1.heap.objs.size+4) (s1.heap.objs.size+2) (s1.heap.objs.size+3) s1.heap.objs.size (s1.heap.objs.size+1) l1 l2:=PySem.W.ktu_apart _ _ _ hlt1 hlt2
   refine ⟨_,[s1.heap.objs.size+4,s1.heap.objs.size+2,s1.heap.objs.size+3,s1.heap.objs.size,s1.heap.objs.size+1],_,_,H1,rfl,I1.kept (t':=s1.toks) hk,turn_zip l1 l2 _ _ _ _ _ D,⟨hz,hTI,⟨_,_,hTO⟩,hi1,hi2⟩,fun c hc=>?_,q⟩
   have hc':c=s1.heap.objs.size+4\/c=s1.heap.objs.size+2\/c=s1.heap.objs.size+3\/c=s1.heap.objs.size\/c=s1.heap.objs.size+1:=by simpa using hc
   have hle : @LE.le Nat _ s1.heap.objs.size c:=by
    rcases hc' with rfl | rfl | rfl | rfl | rfl
    ·exact Nat.le_add_right _ _
    ·exact Nat.le_add_right _ _
    ·exact Nat.le_add_right _ _
    ·exact Nat.le_refl _
    ·exact Nat.le_add_right _ _
   exact I1.fpOk hle (I1.hok.fresh hle)
theorem for_zip{K:PySem.W.Frag}{a b:Addr}{xs ys:List V}{g:TG}{tb:TS}{D:Ends}{σ:St}{H:Hp}(Pv:Nat->St->Hp->Prop)(h0:Pv 0 σ H)(hl:∀ i σ H,Pv i σ H->SqL K H a xs/\SqL K H b ys)(he:xs.length=ys.length)
  (hs:∀ i x y p σ H,xs[i]? = some x->ys[i]? = some y->Pv i σ H->H p=none->g (.ref p) σ (upd H p (.tup [x,y])) fun σ2 H2=>tb { D with nx:=Pv (i+1),ct:=Pv (i+1),bk:=D.nx } σ2 H2) (hd:∀ σ H,Pv xs.length σ H->D.nx σ H) :
  ∃ W:Nat->Nat->St->Hp->Prop,(∃ m,W 0 m σ H)/\∀ i m σ H,W i m σ H ->
   ((Itz K a b).stop i H/\D.nx σ H)\/((Itz K a b).go i H/\∃ N:St->Hp->Prop,(∀ σ' H',N σ' H'->∃ m',m'<m/\W (i+1) m' σ' H')/\∀ x H',(Itz K a b).yld i H x H'->g x σ H' fun σ2 H2=>tb { D with nx:=N,ct:=N,bk:=D.nx } σ2 H2):=by
 refine ⟨fun i m σ H=>m=xs.length-i/\i<=xs.length/\Pv i σ H,⟨xs.length,by simp,Nat.zero_le _,h0⟩,?_⟩
 rintro i m σ H ⟨rfl,hi,p⟩
 obtain ⟨q1,q2⟩:=hl i σ H p
 by_cases hlt:i<xs.length
 ·have hlt2:i<ys.length:=by lia
  refine .inr ⟨⟨xs,ys,xs[i],ys[i],q1,q2,by simp [hlt],by simp [hlt2]⟩,Pv (i+1),fun σ' H' p'=>⟨xs.length-(i+1),by lia,rfl,hlt,p'⟩,fun v H' y=>?_⟩
  obtain ⟨pp,x,y,rfl,hp,rfl,e1,e2⟩:=y
  exact hs i x y pp σ H (e1 xs q1) (e2 ys q2) p hp
 ·have e:i=xs.length:=by lia
  subst e
  exact .inl ⟨⟨xs,ys,q1,q2,.inl (Nat.le_refl _)⟩,hd σ H p⟩
open PySem PySem.Spec PyProof.Rows
def rCatE:R2:=fun x y H Q=>∃ a b xs ys,x = .ref a/\y = .ref b/\H a=some (.tup xs)/\H b=some (.tup ys)/\xs.length+ys.length<=sizeLine/\∀ p H',Same H H'->H' p=some (.tup (xs++ys))->Q (.ref p) H'
theorem op_catE{X:Cx}:OpR X (binaryOp .Add) rCatE:=by
 intro pins s σ H x y v u Q I rx ry h
 obtain ⟨a,b,xs,ys,rfl,rfl,ha,hb,hz,q⟩:=h
 by_cases he:xs=[]
 ·subst he
  cases rx
  cases ry
  obtain ⟨its,r1,p1,_⟩:=I.tuple (SqT.of ha)
  obtain ⟨its2,r2,p2,_⟩:=I.tuple (SqT.of hb)
  cases r1
  obtain ⟨⟨cls,dd,data,sl⟩,ho,hc,n,hd⟩:=id p1
  obtain ⟨⟨cls2,dd2,data2,sl2⟩,ho2,hc2,n2,hd2⟩:=id p2
  simp only at hc hd hc2 hd2
  subst hc hd hc2 hd2
  exact concat_meets ⟨_,ho,rfl⟩ ⟨_,ho2,rfl⟩ noFill_tuple_add seq_tuple_add PySem.F.slot_tuple_add PySem.F.entry_tuple_add (PySem.F.args_tuple_add_2 _ _)
   (tuple_addW0 a b _ _ n n2 dd dd2 sl sl2 (by simp)) ⟨ho,ho2,⟨.ref b,H,I,rfl,q b H (Same.refl H) hb⟩⟩
 ·exact op_catT pins s σ H _ _ v u Q I rx ry ⟨a,b,xs,ys,rfl,rfl,SqT.of ha,SqT.of hb,he,hz,fun e=>q a H (Same.refl H) (by rw [e,List.append_nil];exact ha),fun _ p hp=>q p _ (z_d hp _) z_c⟩
open PySem
end L2
namespace HT
open PySem PyProof.Rows
section
variable {prog:Program} {w:World} {A:Around} {s:Shared} {E:Value->Shared->Prop}
theorem getItem_tuple_whole{t sl:Addr}{items:Array Value}{vl vu:Value}{lo hi:Option Int}{Q:Value->Shared->Prop}(ht:IsTup s.heap t items)(hs:s.heap.IsSliceOf sl vl vu .none)(pl:IsPart vl lo)(pu:IsPart vu hi)
  (hw:sIx items.size 0 lo=0/\sIx items.size items.size hi=items.size) (h:Q (.ref t) s):wpAny (model prog w) A (getItem (.ref t) (.ref sl)) Q E s:=by
 obtain ⟨os,hos,hcs,hds⟩:=id hs
 have hTs:s.TypeIs (.ref sl) "slice" := ⟨os,hos,hcs⟩
 unfold getItem
 try with_reducible refine wpAny_holding ?_
 first | refine wpAny_bind (wpAny_pure ?_) | skip
 refine wpAny_bind (wpAny_sequenceKey ht.typeIs (by decide) ?_)
 refine wpAny_bind (wpAny_callSpecial?_slot (name:=Str.ofString "__getitem__") ht.typeIs PyProof.Rows.slot_tuple_getitem
  (wpAny_call_entry PyProof.Rows.slot_tuple_getitem ht.typeIs entry_tuple_getitem ?_ (args_tuple_getitem _ _)))
 show wpAny _ _ (Builtin.Tuple.tupleItemsOf (.ref t) >>= _) _ _ s
 refine wpAny_bind (tupleItemsOf_ ht ?_)
 refine wpAny_bind (wpAny_typeOf hTs ?_)
 rw [if_pos (by decide)]
 refine wpAny_bind (sliceApplied_gen hs pl pu ?_)
 have hyes:((((sIx items.size 0 lo:Nat):Int) == 0&&(1:Int) == 1&&(sIx items.size items.size hi-sIx items.size 0 lo) == items.size)=true):=by
  rw [hw.1,hw.2]
  simp
 show wpAny _ _ (if (((sIx items.size 0 lo:Nat):Int) == 0&&(1:Int) == 1&&(sIx items.size items.size hi-sIx items.size 0 lo) == items.size)=true then _ else _) _ _ s
 rw [if_pos hyes]
 refine wpAny_bind (m:=Builtin.Tuple.tupleIsExact _) (wpAny_bind (wpAny_typeOf ht.typeIs (wpAny_pure ?_)))
 rw [if_pos (by decide)]
 exact wpAny_bind (wpAny_rule (wpAny_pure ⟨_,rfl,wpAny_pure h⟩))
end
end HT
namespace L2
open PySem PySem.Spec PyProof.Rows
def rSlE:V->Option Int->Option Int->Hp->VK->Prop:=fun x lo hi H Q=>∃ a xs,x = .ref a/\H a=some (.tup xs)/\∀ p H',Same H H'->H' p=some (.tup (cutV xs lo hi))->Q (.ref p) H'
theorem sl_tupE{X:Cx}:SlR X rSlE:=by
 intro pins s σ H x v vl vu lo hi sl Q I rx hs pl pu h
 obtain ⟨a,xs,rfl,hx,q⟩:=h
 by_cases hw:HT.sIx xs.length 0 lo=0/\HT.sIx xs.length xs.length hi=xs.length
 ·cases rx
  obtain ⟨its,r,ht,hz⟩:=I.tuple (SqT.of hx)
  have hlen:its.toArray.size=xs.length:=by rw [List.size_toArray];exact r.length.symm
  refine ⟨"tuple",_,PyProof.Rows.slot_tuple_getitem.lookup,ht.typeIs,?_⟩
  refine HT.getItem_tuple_whole ht hs pl pu (by rw [hlen];exact hw) ?_
  refine ⟨.ref a,H,I,rfl,q a H (Same.refl H) ?_⟩
  have:cutV xs lo hi=xs:=by
   unfold cutV
   rw [hw.1,hw.2]
   simp
  rw [this]
  exact hx
 ·exact sl_tup pins s σ H _ v vl vu lo hi sl Q I rx hs pl pu ⟨a,xs,rfl,SqT.of hx,hw,fun p hp=>q p _ (z_d hp _) z_c⟩
open PySem
section
variable {prog:Program} {w:World} {K:Type} [DecidableEq K] {knd:KeyKind prog w K}
def Ext(h h':Heap):Prop:=∀ b o,h.get? b=some o->h'.get? b=some o
variable {A:Around} {E:Value->Shared->Prop} {s:Shared}
theorem none_past{h:Heap}{a:Addr}(q:h.objs.size<=a):h.get? a=none:=by
 cases e:h.get? a with
 | none=>rfl
 | some o=>exact absurd (Heap.lt_size e) (Nat.not_lt.mpr q)
end
end L2
namespace L2
open PySem PySem.Spec PyProof.Rows
theorem vals_ref:∀ {rs:List Addr} {its:List Value},Vals (rs.map V.ref) its->∀ (i:Nat) (v:Value),its[i]? = some v->∃ r,rs[i]? = some r/\v = .ref r
 | [],_,h,i,v,hv=>by cases h;simp at hv
 | r::rs,_,h,i,v,hv=>by
  rw [List.map_cons] at h
  cases h with
  | cons h1 h2 =>
   cases (show _=Value.ref r from h1)
   match i,hv with
   | 0,hv=>exact ⟨r,rfl,by simpa using hv.symm⟩
   | i+1,hv=>exact vals_ref h2 i v hv
end L2
namespace L2
end L2
namespace L2
end L2
namespace L2
open PySem PySem.Spec PyProof.Rows
section
variable {X:Cx} {pins:List (Addr×Obj)} {σ:St} {H:Hp} {s:Shared}
theorem Inv.frz(I:Inv X pins σ H s){a:Addr}{kvs:List (Key×V)}(e:H a=some (.dK kvs)):∃ o,Inv X pins σ (upd H a (.frz o (.dK kvs))) s:=by
 obtain ⟨z,y,vs,r,d⟩:=dk_of I.hok e
 obtain ⟨o,es,ep,ho,c⟩:=id d
 have mu:Mut (H a):=by rw [e];trivial
 have new:ObjOk X.prog X.w (upd H a (.frz o (.dK kvs))) s.heap a (.frz o (.dK kvs)):=⟨ho,z,y,vs,r,d⟩
 exact ⟨o,I.un (t':=s.toks) (Un.write mu (.inl rfl) (fun b u _ q=>q) ⟨o,ho⟩) (HOk.write I.hok mu (.inl rfl) (fun b u _ q=>q) ⟨o,ho⟩ new)⟩
def sFrz(t:TS):TS:=fun D σ H=>∃ a kvs,H a=some (.dK kvs)/\∀ o,t D σ (upd H a (.frz o (.dK kvs)))
theorem ps_frz{st:Stmt}{t:TS}(h:PS X st t):PS X st (sFrz t):=by
 intro pins s σ H D I q
 obtain ⟨a,kvs,e,q⟩:=q
 obtain ⟨o,I'⟩:=I.frz e
 exact h pins s σ _ D I' (q o)
end
theorem kV_of_is{k:Key}{v:Value}(h:keyIs k v=true):RelV (kV k) v:=by
 rcases y_l h with ⟨i,t,rfl,rfl⟩ | ⟨x,t,rfl,rfl⟩
 ·exact ⟨t,rfl⟩
 ·exact ⟨t,rfl⟩
def Itd(a:Addr)(o:Obj)(kvs:List (Key×V)):It :=
 ⟨fun i H=>H a=some (.frz o (.dK kvs))/\i<kvs.length,fun i H x H'=>H'=H/\∃ kv,kvs[i]? = some kv/\x=kV kv.1,fun i H=>H a=some (.frz o (.dK kvs))/\kvs.length<=i⟩
theorem turn_dict{P:Program}{w:World}{K:PySem.W.Frag}{tg:Expr}(a it:Addr){o:Obj}{kvs:List (Key×V)}{es:Array DictEntry}{ep:Nat}(hd:o.data = .dict es ep) :
  Turn P w K tg (Itd a o kvs) [it] it (fun i h=>h.IsKeyIter it a i kvs.length ep) where
 mem:=by simp
 obj:=fun i h st b hb=>by
  obtain ⟨ob,ho,hc,hd'⟩:=st
  have e:b=it:=by simpa using hb
  subst e
  exact ⟨ob,ho,fun v q=>by rw [hd'] at q;cases q⟩
 keep:=fun i h h' st k=>by
  obtain ⟨ob,ho,r⟩:=st
  exact ⟨ob,k it (by simp) _ ho,r⟩
 item:=by
  intro X hP hw hK hc i pins s σ H E I hf st hg
  subst hP hw hK
  obtain ⟨f0,f1,f2,f3,f4,f5⟩:=hf it (by simp)
  obtain ⟨hH,hi⟩:=hg
  obtain ⟨ho,z,y,vs,r,o',es',ep',ho',hx,hd',hk,hp,hn⟩:=(show ObjOk X.prog X.w H s.heap a (.frz o (.dK kvs)) from I.hok a _ hH)
  rw [ho] at ho'
  cases ho'
  rw [hd] at hd'
  cases hd'
  have hlen:=r.length
  have DA:s.heap.DictAt (mixKind X.prog X.w) a vs ep:=⟨o,es,ho,hx,hd,hk,hp,hn⟩
  rw [hlen] at st hi
  have hvi:vs[i]? = some (vs[i].1,vs[i].2):=by rw [List.getElem?_eq_getElem hi]
  have hkey:∃ kv,kvs[i]? = some kv/\kv.1=vs[i].1:=by
   have hk2:=r.keys
   have h1:(kvs.map (·.1))[i]? = (vs.map (·.1))[i]? := by rw [hk2]
   rw [List.getElem?_map,List.getElem?_map,List.getElem?_eq_getElem hi,List.getElem?_eq_getElem (by lia)] at h1
   exact ⟨kvs[i],List.getElem?_eq_getElem (by lia),Option.some.inj h1⟩
  obtain ⟨kv,hkv,hk1⟩:=hkey
  refine wpAny_pyNext_dict_item st DA hvi fun key h' his st' sb=>?_
  have I1:Inv X pins σ H { s with heap:=h',toks:=s.toks }:=I.turned (fun b ob hb e=>(sb.2 b hb).trans e) f0 f1 f3 f4 f5
  obtain ⟨ob,hob,hcl,hdt⟩:=id st'
  rw [<-hlen] at st'
  exact ⟨_,rfl,go_of (s:={ s with heap:=h',toks:=s.toks }) (n := "dict_keyiterator") hob hcl hdt (by decide) ⟨kV kv.1,H,I1,by rw [hk1];exact kV_of_is his,⟨rfl,kv,hkv,rfl⟩,st',fun b hb=>(hf b hb).1⟩⟩
 done:=by
  intro X hP hw hK hc i pins s σ H E I hf st hg
  subst hP hw hK
  obtain ⟨f0,f1,f2,f3,f4,f5⟩:=hf it (by simp)
  obtain ⟨hH,hi⟩:=hg
  obtain ⟨ho,z,y,vs,r,o',es',ep',ho',hx,hd',hk,hp,hn⟩:=(show ObjOk X.prog X.w H s.heap a (.frz o (.dK kvs)) from I.hok a _ hH)
  rw [ho] at ho'
  cases ho'
  rw [hd] at hd'
  cases hd'
  have hlen:=r.length
  have DA:s.heap.DictAt (mixKind X.prog X.w) a vs ep:=⟨o,es,ho,hx,hd,hk,hp,hn⟩
  rw [hlen] at st hi
  exact wpAny_pyNext_dict_end (I.ok.hd hc) st DA (List.getElem?_eq_none hi) fun h' eb=>⟨rfl,I.turned (t':=s.toks) (fun b o hb e=>eb b o hb e) f0 f1 f3 f4 f5⟩
 self:=fun _ _ _ _ _ st h=>wpAny_pyIter_keyiter st h
def iDict(tl:TE):TI:=fun σ H R=>tl σ H fun x H1=>∃ a o kvs,x = .ref a/\H1 a=some (.frz o (.dK kvs))/\R (Itd a o kvs) H1
theorem pi_dict{X:Cx}{tg:Expr}{l:Expr}{tl:TE}(hl:PE X l tl):PI X tg l (iDict tl):=by
 intro pins s σ H R I h
 refine thn (hl pins s σ H _ I h) fun v s1 ⟨x,H1,I1,r1,q1⟩=>?_
 obtain ⟨a,o,kvs,e,hH,q⟩:=q1
 subst e
 cases r1
 obtain ⟨ho,z,y,vs,r,o',es,ep,ho',hx,hd,hk,hp,hn⟩:=(show ObjOk X.prog X.w H1 s1.heap a (.frz o (.dK kvs)) from I1.hok a _ hH)
 rw [ho] at ho'
 cases ho'
 have hlen:=r.length
 refine wpAny_pyIter_dict (knd:=mixKind X.prog X.w) y ⟨o,es,ho,hx,hd,hk,hp,hn⟩ ?_
 refine ⟨s1.heap.objs.size,[s1.heap.objs.size],_,_,H1,rfl,I1.kept (t':=s1.toks) fun b o e=>Heap.get?_push_of_some _ e,turn_dict a _ (kvs:=kvs) hd,⟨_,Heap.get?_push_size _ rfl,rfl,by rw [hlen];rfl⟩,fun b hb=>?_,q⟩
 have e:b=s1.heap.objs.size:=by simpa using hb
 subst e
 exact I1.fpOk (Nat.le_refl _) (I1.hok.fresh (Nat.le_refl _))
theorem for_dict{a:Addr}{o:Obj}{kvs:List (Key×V)}{g:TG}{tb:TS}{D:Ends}{σ:St}{H:Hp}(Pv:Nat->St->Hp->Prop)(h0:Pv 0 σ H)(hl:∀ i σ H,i<=kvs.length->Pv i σ H->H a=some (.frz o (.dK kvs)))
  (hs:∀ i kv σ H,kvs[i]? = some kv->Pv i σ H->g (kV kv.1) σ H fun σ2 H2=>tb { D with nx:=Pv (i+1),ct:=Pv (i+1),bk:=D.nx } σ2 H2) (hd:∀ σ H,Pv kvs.length σ H->D.nx σ H) :
  ∃ W:Nat->Nat->St->Hp->Prop,(∃ m,W 0 m σ H)/\∀ i m σ H,W i m σ H ->
   ((Itd a o kvs).stop i H/\D.nx σ H)\/((Itd a o kvs).go i H/\∃ N:St->Hp->Prop,(∀ σ' H',N σ' H'->∃ m',m'<m/\W (i+1) m' σ' H')/\∀ x H',(Itd a o kvs).yld i H x H'->g x σ H' fun σ2 H2=>tb { D with nx:=N,ct:=N,bk:=D.nx } σ2 H2):=by
 refine ⟨fun i m σ H=>m=kvs.length-i/\i<=kvs.length/\Pv i σ H,⟨kvs.length,by simp,Nat.zero_le _,h0⟩,?_⟩
 rintro i m σ H ⟨rfl,hi,p⟩
 have q:=hl i σ H hi p
 by_cases hlt:i<kvs.length
 ·refine .inr ⟨⟨q,hlt⟩,Pv (i+1),fun σ' H' p'=>⟨kvs.length-(i+1),by lia,rfl,hlt,p'⟩,fun x H' y=>?_⟩
  obtain ⟨e,kv,hkv,rfl⟩:=y
  subst e
  exact hs i kv σ _ hkv p
 ·have e:i=kvs.length:=by lia
  subst e
  exact .inl ⟨⟨q,Nat.le_refl _⟩,hd σ H p⟩
theorem comp_dict{S:V->St}{tt:TT}{te:TE}{H:Hp}{Fin:List V->Hp->Prop}{a:Addr}{o:Obj}{kvs:List (Key×V)}(Pv:Nat->List V->Hp->Prop)(h0:Pv 0 [] H)(hl:∀ i ys H,i<=kvs.length->Pv i ys H->H a=some (.frz o (.dK kvs)))(hz:∀ i ys H,i<kvs.length->Pv i ys H->ys.length<sizeLine)
  (hs:∀ i kv ys H,kvs[i]? = some kv->Pv i ys H->tt (S (kV kv.1)) H fun b H2=>if b=true then te (S (kV kv.1)) H2 fun y H3=>Pv (i+1) (ys++[y]) H3 else Pv (i+1) ys H2)
  (hd:∀ ys H,Pv kvs.length ys H->Fin ys H):CompW (Itd a o kvs) S tt te H Fin:=by
 refine ⟨fun i m ys H=>m=kvs.length-i/\i<=kvs.length/\Pv i ys H,⟨kvs.length,by simp,Nat.zero_le _,h0⟩,?_⟩
 rintro i m ys H ⟨rfl,hi,p⟩
 have q:=hl i ys H hi p
 by_cases hlt:i<kvs.length
 ·refine .inr ⟨⟨q,hlt⟩,hz i ys H hlt p,Pv (i+1),fun ys' H' p'=>⟨kvs.length-(i+1),by lia,rfl,hlt,p'⟩,fun x H' y=>?_⟩
  obtain ⟨e,kv,hkv,rfl⟩:=y
  subst e
  exact hs i kv ys _ hkv p
 ·have e:i=kvs.length:=by lia
  subst e
  exact .inl ⟨⟨q,Nat.le_refl _⟩,hd ys H p⟩
section
variable {X:Cx}
theorem call_dict_rd:CallR X (.type "dict") (fun xs H Q=>∃ a kvs,xs=[.ref a]/\Rd H a (.dK kvs)/\∀ p,H p=none->Q (.ref p) (upd H p (.dK kvs))):=by
 intro pins s σ H vs us Q I r h
 obtain ⟨a,kvs,rfl,e,q⟩:=h
 cases r with
 | cons r rr =>
  cases rr
  cases r
  exact d_copyOf I e fun p s' hp I'=>⟨.ref p,_,I',rfl,q p hp⟩
end
end L2
namespace L2
open PySem PySem.Spec PyProof.Rows PySem.SeqAt MeetsSeq MeetsSeq2 MeetsSeq3
open AutoSeq1 (wpAny_loadPart')
end L2
namespace L2
open PySem PySem.Spec PyProof.Rows PySem.SeqAt MeetsSeq MeetsSeq2 MeetsSeq3
open AutoSeq1 (wpAny_loadPart')
end L2
namespace L2
open PySem PySem.Spec PyProof.Rows
end L2
namespace L2
theorem snoc_ind{α:Type}{P:List α->Prop}(h0:P [])(hs:∀ l a,P l->P (l++[a])):∀ l,P l:=by
 intro l
 have:∀ r:List α,P r.reverse:=by
  intro r
  induction r with
  | nil=>exact h0
  | cons a r ih=>rw [List.reverse_cons];exact hs _ _ ih
 have h:=this l.reverse
 rwa [List.reverse_reverse] at h
end L2
namespace L2
open PySem
end L2
namespace L2
open PySem PySem.Spec PyProof.Rows
end L2
namespace L2
open PySem PySem.Spec PyProof.Rows
theorem comp_new{K:PySem.W.Frag}{a:Addr}{S:V->St}{te:TE}{H:Hp}{Fin:List V->Hp->Prop}{xs:List V}{α:Type}(ps:List α)(f:α->HO)(hS:SqL K H a xs)(hl:xs.length=ps.length)(hz:ps.length<=100000)
  (hs:∀ (i:Nat) (x:V) (p:α) (H':Hp),xs[i]? = some x->ps[i]? = some p->Same H H'->∀ N:V->Hp->Prop,(∀ r H2,H' r=none->Same H' H2->H2 r=some (f p)->N (.ref r) H2)->te (S x) H' N)
  (hd:∀ rs H',Same H H'->(∀ r∈rs,H r=none)->Paired (fun r p=>H' r=some (f p)) rs ps->Fin (rs.map V.ref) H'):CompW (Itl K a) S tYes te H Fin:=by
 refine comp_list (xs:=xs) (fun i ys H'=>∃ rs:List Addr,ys=rs.map V.ref/\Same H H'/\(∀ r∈rs,H r=none)/\Paired (fun r p=>H' r=some (f p)) rs (ps.take i)) ⟨[],rfl,Same.refl _,(fun _ h=>absurd h (by simp)),.nil⟩ ?_ ?_ ?_ ?_
 ·rintro i ys H' _ ⟨_,_,s,_⟩
  exact s.seq hS
 ·rintro i ys H' _ ⟨rs,rfl,_,_,pr⟩
  have h1:=Paired.length pr
  rw [List.length_take] at h1
  rw [List.length_map]
  exact y_j (by lia)
 ·rintro i x ys H' hx ⟨rs,rfl,s,hn,pr⟩
  have hi:i<ps.length:=by rw [<-hl];exact (List.getElem?_eq_some_iff.mp hx).1
  unfold tYes
  refine iteT (hs i x ps[i] H' hx (List.getElem?_eq_getElem hi) s _ fun r H2 h0 s2 e=>⟨rs++[r],by rw [List.map_append];rfl,s.trans s2,fun q hq=>?_,?_⟩)
  ·rcases List.mem_append.mp hq with h | h
   ·exact hn q h
   ·rw [List.mem_singleton.mp h];exact s.free h0
  ·rw [List.take_add_one,List.getElem?_eq_getElem hi]
   exact pairedSnoc (R:=fun r p=>H2 r=some (f p)) e (z_r (fun _ _ z=>s2 _ _ z) pr)
 ·rintro ys H' ⟨rs,rfl,s,hn,pr⟩
  rw [hl,List.take_length] at pr
  exact hd rs H' s hn pr
open PySem
theorem comp_zip{K:PySem.W.Frag}{n:Nat}{c:St}{g:TG}{tt:TT}{te:TE}{H:Hp}{Fin:List V->Hp->Prop}{a b:Addr}{xs us:List V}(Pv:Nat->List V->Hp->Prop)(h0:Pv 0 [] H)(hl:∀ i ys H,i<=xs.length->Pv i ys H->SqL K H a xs/\SqL K H b us)(he:xs.length=us.length)(hz:∀ i ys H,i<xs.length->Pv i ys H->ys.length<sizeLine)
  (hs:∀ i x y p ys H (os:St),os.length=n->xs[i]? = some x->us[i]? = some y->Pv i ys H->H p=none->g (.ref p) (os++c) (upd H p (.tup [x,y])) fun σ2 H2=>tt σ2 H2 fun b H3=>if b=true then te σ2 H3 fun y H4=>Pv (i+1) (ys++[y]) H4 else Pv (i+1) ys H3)
  (hd:∀ ys H,Pv xs.length ys H->Fin ys H):CompG (Itz K a b) n c g tt te H Fin:=by
 refine ⟨fun i m ys H=>m=xs.length-i/\i<=xs.length/\Pv i ys H,⟨xs.length,by simp,Nat.zero_le _,h0⟩,?_⟩
 rintro i m ys H ⟨rfl,hi,p⟩
 obtain ⟨q1,q2⟩:=hl i ys H hi p
 by_cases hlt:i<xs.length
 ·have hlt2:i<us.length:=by lia
  refine .inr ⟨⟨xs,us,xs[i],us[i],q1,q2,by simp [hlt],by simp [hlt2]⟩,hz i ys H hlt p,Pv (i+1),fun ys' H' p'=>⟨xs.length-(i+1),by lia,rfl,hlt,p'⟩,fun v H' y os hos=>?_⟩
  obtain ⟨pp,x,y,rfl,hp,rfl,e1,e2⟩:=y
  exact hs i x y pp ys H os hos (e1 xs q1) (e2 us q2) p hp
 ·have e:i=xs.length:=by lia
  subst e
  exact .inl ⟨⟨xs,us,q1,q2,.inl (Nat.le_refl _)⟩,hd ys H p⟩
section
variable {prog:Program} {w:World} {A:Around} {E:Value->Shared->Prop} {s:Shared}
theorem no_keys:typeLookup (.type "list") "keys" = pure none:=am_miss_of_fast (by decide +kernel)
theorem by_keys{l : Addr}{its : Array Value}{tk : Tok}{Q : Value -> Shared -> Prop}(pl : PlainL s.heap l its)(calm : A.handled = none)
    (out : ∀ h' t' e, Heap.NewAttrErr s.heap h' e (.ref l) "keys" -> E (.ref e) { s with heap := h', toks := t' }) : wpAny (model prog w) A (getAttrBy (.ref l) (.str "keys" tk) false) Q E s := by
  obtain ⟨⟨c, dct, dat, sl⟩, n, at_, k1, k2, k3⟩ := pl
  have k1 : c = .type "list" := k1
  have k2 : dct = none := k2
  have k3 : dat = .seq its n := k3
  subst k1 k2 k3
  obtain ⟨hp, gn, dr, tk0, os⟩ := s
  have ty : ∀ z, (⟨hp, gn, dr, z, os⟩ : Shared).TypeIs (.ref l) "list" := fun _ => ⟨_, at_, rfl⟩
  have m1 := sub_AttributeError
  have m2 := PySem.F.slot_list_getattribute.lookup
  have m3 := PySem.F.slot_list_getattribute.bind (.ref l)
  have m4 := am_list_getattr_none
  unfold getAttrBy
  repeat (any_goals (first
    | assumption
    | exact ty _
    | ((with_reducible show wpAny _ _ (call (Value.builtin "list.__getattribute__") _ _) _ _ _)
       refine call_meets PySem.F.slot_list_getattribute (ty _) am_entry_list_getattribute (PySem.F.args_list_getattribute_2 _ _) (meets_getattribute_miss_list l its n sl _ _ no_keys (by decide +kernel) (by size_fits)) ⟨at_, calm, fun h' t' e new => ?_⟩)
    | wp_step))
  obtain ⟨t1, u1, here⟩ := new.there
  show wpAny _ _ (getattributeRaised _ _ _ _ _ _ _) _ _ _
  unfold getattributeRaised
  repeat (any_goals (first | assumption | wp_step))
  exact out _ _ _ new
theorem keysQ{l:Addr}{its:Array Value}{Q:Option Value->Shared->Prop}(pl:PlainL s.heap l its)(calm:A.handled=none)(out:∀ h' t',Ext s.heap h'->Q none { s with heap:=h',toks:=t' }) :
  wpAny (model prog w) A (getAttr? (.ref l) "keys") Q E s:=by
 unfold getAttr? getAttrBy?
 refine wpAny_bind (wpAny_mkText (wpAny_bind (wpAny_attempt (by_keys pl calm fun h' t' e new=>?_))))
 obtain ⟨t1,u1,here⟩:=new.there
 dsimp only
 refine wpAny_bind (wpAny_isInstance (T := "AttributeError") ⟨_,here,rfl⟩ sub_AttributeError ?_)
 rw [if_pos rfl]
 refine wpAny_pure ?_
 exact out h' t' new.keeps
end
end L2
namespace L2
open PySem PySem.Spec PyProof.Rows
theorem en_dul:entryFor table "dict.update.loop" = some Builtin.«dict.update.loop» := entryFor_of_tree (by kernel_rfl)
theorem pl_dul:plainId "dict.update.loop" = true:=by decide +kernel
section
variable {prog:Program} {w:World} {K:Type} [DecidableEq K] {knd:KeyKind prog w K}
def PairAt(h:Heap)(t:Addr)(x y:Value):Prop:=∃ o n,h.get? t=some o/\o.cls = .type "tuple" /\ o.data = .seq #[x,y] n
variable {A:Around} {E:Value->Shared->Prop} {s:Shared}
theorem wp_pair{t:Addr}{x y:Value}{Q:List Value->Shared->Prop}(h:PairAt s.heap t x y)(q:Q [x,y] s):wpAny (model prog w) A (Builtin.Dict.pairItems (.ref t)) Q E s:=by
 obtain ⟨o,n,e,c,d⟩:=h
 unfold Builtin.Dict.pairItems
 refine wpAny_bind (wpAny_typeOf (T := "tuple") ⟨o,e,c⟩ ?_)
 rw [if_pos (by decide)]
 exact wpAny_bind (wpAny_seqItems e d (wpAny_pure q))
def mtDict:Obj:={ cls:=.type "dict",data:=.dict #[] }
end
end L2
namespace L2
open PySem PySem.Spec PyProof.Rows
section
variable {X:Cx}
def rInsert:V->List V->Hp->VK->Prop:=fun x vs H Q=>∃ l xs i y,x = .ref l/\vs=[.int i,y]/\H l=some (.lst xs)/\0<=i/\i<=(xs.length:Int)/\xs.length<sizeLine/\Q .non (upd H l (.lst (xs.take i.toNat++y::xs.drop i.toNat)))
theorem valsTake{xs:List V}{vs:List Value}(r:Vals xs vs):∀ k,Vals (xs.take k) (vs.take k):=by
 induction r with
 | nil=>intro k;simp;exact .nil
 | cons a b ih =>
  intro k
  cases k with
  | zero=>exact .nil
  | succ k=>exact .cons a (ih k)
theorem valsDrop{xs:List V}{vs:List Value}(r:Vals xs vs):∀ k,Vals (xs.drop k) (vs.drop k):=by
 induction r with
 | nil=>intro k;simp;exact .nil
 | cons a b ih =>
  intro k
  cases k with
  | zero=>exact .cons a b
  | succ k=>exact ih k
theorem mt_insert:MtM X "list.insert" rInsert:=by
 intro pins s σ H x vs v us Q I rx rv h
 obtain ⟨l,xs,i,y,rfl,rfl,hH,h0,h1,hz,q⟩:=h
 cases rx
 obtain ⟨u,w',rfl,ru,rw'⟩:=vals2 rv
 obtain ⟨t,rfl⟩:=ru
 obtain ⟨z,its,n,r,hl,e⟩:=I.lstM hH
 have hz':its.length<2^24:=by
  have:xs.length<2^24:=Nat.lt_of_lt_of_le hz (by rw [sizeLine_eq];decide)
  lia
 have fi:¬(!Builtin.List.listFitsIndex i)=true:=by
  rw [fitsIndex_both (by lia) (by lia)]
  decide
 refine call_meets PySem.F.slot_list_insert ⟨_,e,rfl⟩ PySem.F.entry_list_insert (PySem.F.args_list_insert_3 _ _ _) (PySem.AutoSeq1.list_insert_list_int_val_1 l its.toArray n i t w' fi (by rw [List.size_toArray];lia)) ⟨e,?_⟩
 refine ⟨.non,_,I.lset (its':=its.take i.toNat++w'::its.drop i.toNat) hH e ?_ ((valsTake r _).append (.cons rw' (valsDrop r _))) ?_,rfl,q⟩
 ·dsimp only
  rw [if_neg (by lia),List.size_toArray,Nat.min_eq_left (by lia)]
  simp only [List.extract_toArray,List.push_toArray,List.append_toArray,List.extract_eq_take_drop,List.size_toArray,Nat.sub_zero,List.drop_zero]
  rw [List.take_of_length_le (l:=its.drop i.toNat) (by rw [List.length_drop];lia),List.append_assoc]
  rfl
 ·rw [List.length_append,List.length_cons,List.length_take,List.length_drop]
  lia
theorem op_mulS:OpR X (binaryOp .Mult) (fun x y H Q=>∃ (z:Str) (n:Int),x = .str z/\y = .int n/\((n=0/\Q (.str "") H)\/(n=1/\Q (.str z) H))):=by
 intro pins s σ H x y v u Q I rx ry h
 obtain ⟨z,n,rfl,rfl,q⟩:=h
 obtain ⟨t,rfl⟩:=rx
 obtain ⟨t',rfl⟩:=ry
 rcases q with ⟨rfl,q⟩ | ⟨rfl,q⟩
 ·exact PySem.P.mul_str_none (by decide) (by decide) ⟨.str "",H,I.tok _,⟨_,rfl⟩,q⟩
 ·exact PySem.P.mul_str (by decide) (fun _ e=>by cases e) (fun _ e=>by cases e) (by rw [if_neg (by decide),if_pos (by rfl)];exact ⟨.str z,H,I,⟨_,rfl⟩,q⟩)
theorem isinst_two{pins:List (Addr×Obj)}{σ:St}{H:Hp}{s:Shared}{A:Around}{E:Value->Shared->Prop}{Q:Value->Shared->Prop}{b:Bool}{x:V}{u t:Value}{tp:Addr}{dd:Option Addr}{its:List Value}{n:Nat}{sl:Array (Option Value)}
  (I:Inv X pins σ H s) (rx:RelV x u) (ty:TyOf X.K H x t) (htp:s.heap.get? tp=some ⟨.type "tuple",dd,.seq its.toArray n,sl⟩) (e:PySem.W.kitAny X.K t its=some b) (h:∀ tk,Q (.bool b) { s with toks:=tk }) :
  wpAny (model X.prog X.w) A (call (.builtin "isinstance") [u,.ref tp]) Q E s:=by
 cases ty with
 | non=>cases (show u=Value.none from rx);exact PySem.W.kia_tup PySem.W.kitx_none I.kIn True.intro htp e (fun z=>nomatch z) h
 | bl y=>cases (show u=Value.bool y from rx);exact PySem.W.kia_tup PySem.W.kitx_bool I.kIn True.intro htp e (fun z=>nomatch z) h
 | int i=>obtain ⟨t,q⟩:=(show ∃ t,u=Value.int i t from rx);cases q;exact PySem.W.kia_tup PySem.W.kitx_int I.kIn True.intro htp e (fun z=>nomatch z) h
 | str y=>obtain ⟨t,q⟩:=(show ∃ t,u=Value.str y t from rx);cases q;exact PySem.W.kia_tup PySem.W.kitx_str I.kIn True.intro htp e (fun z=>nomatch z) h
 | flt y=>obtain ⟨t,q⟩:=(show ∃ t,u=Value.float y t from rx);cases q;exact PySem.W.kia_tup PySem.W.kitx_float I.kIn True.intro htp e (fun z=>nomatch z) h
 | @lst a xs ea =>
  cases (show u=Value.ref a from rx)
  obtain ⟨_,_,n,_,h1⟩:=(show ObjOk X.prog X.w H s.heap a (.lst xs) from I.hok a _ ea)
  exact PySem.W.kia_tup PySem.W.kitx_list I.kIn ⟨_,h1,rfl⟩ htp e (fun z=>nomatch z) h
 | @frz a ob xs ea =>
  cases (show u=Value.ref a from rx)
  obtain ⟨_,_,_,n,_,h1⟩:=(show ObjOk X.prog X.w H s.heap a (.frz ob (.lst xs)) from I.hok a _ ea)
  exact PySem.W.kia_tup PySem.W.kitx_list I.kIn ⟨_,h1,rfl⟩ htp e (fun z=>nomatch z) h
 | @tup a xs ea =>
  cases (show u=Value.ref a from rx)
  obtain ⟨_,_,_,p⟩:=(show ObjOk X.prog X.w H s.heap a (.tup xs) from I.hok a _ ea)
  obtain ⟨o,h1,h2,_⟩:=p
  exact PySem.W.kia_tup PySem.W.kitx_tuple I.kIn ⟨o,h1,h2⟩ htp e (fun z=>nomatch z) h
 | @dK a kvs ea =>
  cases (show u=Value.ref a from rx)
  obtain ⟨_,_,vs,_,p⟩:=(show ObjOk X.prog X.w H s.heap a (.dK kvs) from I.hok a _ ea)
  obtain ⟨o,es,ep,h1,h2,_⟩:=p
  exact PySem.W.kia_tup PySem.W.kitx_dict I.kIn ⟨o,h1,h2.1⟩ htp e (fun z=>nomatch z) h
 | @dT a kvs ea =>
  cases (show u=Value.ref a from rx)
  obtain ⟨_,_,xs,_,o,es,ep,h1,h2,_⟩:=(show ObjOk X.prog X.w H s.heap a (.dT kvs) from I.hok a _ ea)
  exact PySem.W.kia_tup PySem.W.kitx_dict I.kIn ⟨o,h1,h2.1⟩ htp e (fun z=>nomatch z) h
 | @ins a C dx fs ea cl ha hn htk hm =>
  cases (show u=Value.ref a from rx)
  obtain ⟨mA,O,_⟩:=ins_get I.hok ea
  obtain ⟨od,J,_⟩:=O.look
  exact PySem.W.kia_tup (PySem.W.kitx_own (cl.get _) cl.hd ha hn htk hm) I.kIn J htp e (fun z=>nomatch z) h
theorem call_isin2{K:PySem.W.Frag}(hK:X.K=K){S T:String}:CallR X (.builtin "isinstance") (fun xs H Q=>∃ x p t b,xs=[x,.ref p]/\H p=some (.tup [.ty S,.ty T])/\TyOf K H x t/\PySem.W.kitAny K t [.type S,.type T]=some b/\Q (.bl b) H):=by
 subst hK
 intro pins s σ H xs us Q I r h
 obtain ⟨x,p,t,b,rfl,hp,ty,e,q⟩:=h
 obtain ⟨u,w',rfl,rx,rt⟩:=vals2 r
 cases (show w'=Value.ref p from rt)
 obtain ⟨_,its,rv,ob,e1,e2,n,e3⟩:=(show ObjOk X.prog X.w H s.heap p (.tup [.ty S,.ty T]) from I.hok p _ hp)
 obtain ⟨a,b',rfl,ra,rb⟩:=vals2 rv
 cases (show a=Value.type S from ra)
 cases (show b'=Value.type T from rb)
 obtain ⟨cl,dd,da,sl⟩:=ob
 dsimp only at e2 e3
 subst e2 e3
 exact isinst_two I rx ty e1 e fun tk=>⟨.bl b,H,I.tok _,rfl,q⟩
end
section
variable {prog:Program} {w:World} {K:Type} [DecidableEq K] {knd:KeyKind prog w K}
def stK(L:List (K×Value)):List (K×Value):=L.foldl (fun xs p=>stored xs p.1 p.2) []
theorem stK_snoc(L:List (K×Value))(p:K×Value):stK (L++[p])=stored (stK L) p.1 p.2:=by
 unfold stK
 rw [List.foldl_append]
 rfl
theorem stored_len(xs:List (K×Value))(k:K)(u:Value):(stored xs k u).length<=xs.length+1:=by
 unfold stored
 split
 ·rw [List.length_map];lia
 ·rw [List.length_append];exact Nat.le_refl _
theorem stK_len:∀ L:List (K×Value),(stK L).length<=L.length:=by
 refine snoc_ind (Nat.le_refl _) fun L p ih=>?_
 rw [stK_snoc,List.length_append]
 exact Nat.le_trans (stored_len _ _ _) (Nat.succ_le_succ ih)
variable {A:Around} {E:Value->Shared->Prop} {s:Shared}
theorem dmoveK{h h':Heap}{D:Addr}{xs:List (K×Value)}(d:h.DictOf knd D xs)(e:∀ o,h.get? D=some o->h'.get? D=some o):h'.DictOf knd D xs:=by
 obtain ⟨o,es,ep,d1,r⟩:=d
 exact ⟨o,es,ep,e o d1,r⟩
theorem loopK{R:Result->Shared->Prop}{I:Addr}{fp wr:List Addr}{G:Array GenState->Array GenState->Prop}{n:Nat}{P:Nat->Value->Prop}{St:Nat->Shared->Prop}
  (W:WalksS prog w A.in1 I fp wr G n P St) (D:Addr) (far:D∉fp) (ps:List (K×Value)) (hl:ps.length=n) (hn:n<=100000) (h0:Heap)
  (ky:∀ i v,P i v->∃ t kv p,v = .ref t/\PairAt h0 t kv p.2/\knd.is p.1 kv=true/\ps[i]? = some p) (h0D:h0.get? D=none) (h0w:∀ b∈wr,h0.get? b=none) :
  ∀ (left i:Nat) (c:Int) (tk:Tok) (z:Shared),i+left=n->St i z->Ext h0 z.heap->z.heap.DictOf knd D (stK (ps.take i)) ->
   (∀ y,Moved (D::wr) G z y->y.heap.DictOf knd D (stK ps)->R (.ok (.ret .none)) y) ->
   codeAny (model prog w) A (.builtin "dict.update.loop" ⟨[.ref D,.ref I,.int c tk,.none],[]⟩) R z
 | 0,i,c,tk,z,e,wi,ex,di,out=>by
  obtain rfl:i=n:=e
  have nw:D∉wr:=fun q=>far (W.sub D q)
  refine codeAny_builtin en_dul ?_
  rw [Around.under_plainId pl_dul _]
  show wpAny _ A.in1 (pyNext (.ref I) >>= _) _ _ z
  refine wpAny_bind (W.done z _ _ wi fun y mv=>?_)
  rw [<-hl,List.take_length] at di
  refine wpAny_bind (m:=Builtin.Dict.addKeywords D []) (wpAny_pure ?_)
  refine wpAny_pure (out y (mv.mono fun b=>List.mem_cons_of_mem _) ?_)
  exact dmoveK di (fun o q=>mv.heap D o nw q)
 | left+1,i,c,tk,z,e,wi,ex,di,out=>by
  have nw:D∉wr:=fun q=>far (W.sub D q)
  have il:i<ps.length:=by lia
  refine codeAny_builtin en_dul ?_
  rw [Around.under_plainId pl_dul _]
  show wpAny _ A.in1 (pyNext (.ref I) >>= _) _ _ z
  refine wpAny_bind (W.item i z _ _ (by lia) wi fun v y pv wj mv=>?_)
  obtain ⟨t,kv,p,rfl,pt,kb,pi⟩:=ky i v pv
  have ey:Ext h0 y.heap:=fun c o q=>mv.heap c o (fun hc=>by rw [h0w c hc] at q;cases q) (ex c o q)
  have dy:y.heap.DictOf knd D (stK (ps.take i)):=dmoveK di (fun o q=>mv.heap D o nw q)
  refine wpAny_bind (wpAny_holding (wpAny_bind (wpAny_tryCatch (wp_pair (x:=kv) (y:=p.2) (let ⟨o,n,a,r⟩:=pt;⟨o,n,ey _ _ a,r⟩) ?_))))
  show wpAny _ A.in1 (holding [kv,p.2] (dictSet D kv p.2)) _ _ y
  have hz:(stK (ps.take i)).length<=sizeLine:=by
   have:=stK_len (ps.take i)
   rw [List.length_take] at this
   rw [sizeLine_eq]
   lia
  refine wpAny_holding (wpAny_dictSet_pairs (knd:=knd) (hsz:=hz) kb dy fun hn' dn only=>?_)
  have et:ps.take (i+1)=ps.take i++[p]:=by rw [List.take_add_one,pi];rfl
  rw [<-stK_snoc,<-et] at dn
  have oth:∀ {c:Addr} {o:Obj},c≠D->y.heap.get? c=some o->hn'.get? c=some o:=fun {c o} nc q=>by rw [only.2 c nc];exact q
  refine wpAny_pure ⟨plainId_quiet pl_dul _,loopK W D far ps hl hn h0 ky h0D h0w left (i+1) _ _ _ (by lia) (W.frame _ y _ _ wj (Nat.le_add_right _ _) fun c hc o q=>oth (fun z=>far (z▸hc)) q) (fun c o q=>oth (fun z=>by rw [z,h0D] at q;cases q) (ey c o q)) dn fun x mx dx=>?_⟩
  exact out x (Moved.trans W.gtrans ((mv.mono fun b=>List.mem_cons_of_mem _).then_heap (Nat.le_add_right _ _) fun c o hc q=>oth (fun z=>hc (z▸List.mem_cons_self)) q) mx) dx
theorem call_dict_prs{l:Addr}{items:Array Value}{ps:List (K×Value)}{Q:Value->Shared->Prop}(calm:A.handled=none)(pl:PlainL s.heap l items)(same:ps.length=items.size)(few:ps.length<=100000)
  (ky:∀ (i:Nat) (v:Value),items[i]? = some v->∃ (t:Addr) (kv:Value) (p:K×Value),v = .ref t/\PairAt s.heap t kv p.2/\knd.is p.1 kv=true/\ps[i]? = some p)
  (out:∀ (h':Heap) (tk:Nat),h'.DictOf knd s.heap.objs.size (stK ps)->Ext s.heap h'->Q (.ref s.heap.objs.size) { s with heap:=h',toks:=tk }) :
  wpAny (model prog w) A (call (.type "dict") [.ref l]) Q E s:=by
 refine callType_codes (Q₁:=fun x z=>x = .ref s.heap.objs.size/\z={ s with heap:=s.heap.push mtDict }) PySem.F.kt_called_dict (PySem.F.kt_typeCall_dict_1 _) PySem.F.entry_dict_init (kt_code_dict_new _ ⟨rfl,rfl⟩) ?_
 rintro x z ⟨rfl,rfl⟩
 have new:(s.heap.push mtDict).DictOf knd s.heap.objs.size []:=Heap.DictOf.new s.heap
 have tyD:Shared.TypeIs { s with heap:=s.heap.push mtDict } (.ref s.heap.objs.size) "dict" := by
  obtain ⟨o,es,ep,ho,hx,_⟩:=new
  exact ⟨o,ho,hx.1⟩
 obtain ⟨ol,nl,el,cl,dl,sl⟩:=pl
 have pl1:PlainL (s.heap.push mtDict) l items:=⟨ol,nl,Heap.get?_push_of_some _ el,cl,dl,sl⟩
 have lt_l:l<s.heap.objs.size:=Heap.lt_size el
 refine ⟨tyD,PySem.F.args_dict_init_2 _ _,?_⟩
 unfold Builtin.«dict.__init__»
 refine wpAny_bind ?_
 unfold Builtin.Dict.selfAndRest
 refine wpAny_bind (wpAny_notOrdered_dict tyD ?_)
 show wpAny _ _ (pure (s.heap.objs.size,[Value.ref l])) _ _ _
 refine wpAny_pure ?_
 show wpAny _ _ (Builtin.Dict.updateFrom "dict.__init__" s.heap.objs.size (.ref l) [] .none) _ _ _
 unfold Builtin.Dict.updateFrom
 have ty:Shared.TypeIs { s with heap:=s.heap.push mtDict } (.ref l) "list" := ⟨ol,Heap.get?_push_of_some _ el,cl⟩
 refine wpAny_bind (wpAny_typeOf ty ?_)
 rw [if_pos (by decide)]
 refine wpAny_bind (keysQ pl1 (by simp [calm]) fun h1 t1 e1=>?_)
 rw [if_pos (show (none:Option Value).isNone=true from rfl)]
 have new2:h1.DictOf knd s.heap.objs.size []:=dmoveK new (fun o q=>e1 _ _ q)
 have el2:=e1 _ _ (Heap.get?_push_of_some _ el)
 have il2:h1.IsList l items:=⟨ol,el2,cl,nl,sl⟩
 refine wpAny_bind (wpAny_rule (wpAny_bind (wpAny_pyIter_list il2 (wpAny_pure ?_))))
 dsimp only
 have lt1:s.heap.objs.size<h1.objs.size:=by
  obtain ⟨o,_,_,e,_⟩:=id new2
  exact Heap.lt_size e
 have l_it:l≠h1.objs.size:=Nat.ne_of_lt (Nat.lt_trans lt_l lt1)
 have far:s.heap.objs.size∉[h1.objs.size,l]:=by
  simp only [List.mem_cons,List.not_mem_nil,or_false,not_or]
  exact ⟨Nat.ne_of_lt lt1,Nat.ne_of_gt lt_l⟩
 refine ⟨plainId_quiet pl_dul _,loopK (knd:=knd) (Walks.list (A:=A.in1.in1) (by simp [calm]) _ l l_it items).toS s.heap.objs.size far ps same (by lia) s.heap ky (none_past (Nat.le_refl _)) (fun b q=>?_) items.size 0 _ _ _ (Nat.zero_add _) ⟨⟨_,Heap.get?_push_size _ rfl,rfl,rfl⟩,⟨ol,Heap.get?_push_of_some _ el2,cl,nl,sl⟩⟩ (fun c o q=>Heap.get?_push_of_some _ (e1 _ _ (Heap.get?_push_of_some _ q))) (dmoveK new2 (fun o q=>Heap.get?_push_of_some _ q)) fun y mv dy=>?_⟩
 ·rw [List.mem_singleton.mp q]
  exact none_past (Nat.le_of_lt lt1)
 ·have kp:Ext s.heap y.heap:=fun b o q=>by
   have lb:=Heap.lt_size q
   refine mv.heap b o ?_ (Heap.get?_push_of_some _ (e1 _ _ (Heap.get?_push_of_some _ q)))
   simp only [List.mem_cons,List.not_mem_nil,or_false,not_or]
   exact ⟨Nat.ne_of_lt lb,Nat.ne_of_lt (Nat.lt_trans lb lt1)⟩
  obtain ⟨hy,gy,dy',ty',oy⟩:=y
  cases (show gy=s.gens from mv.gens)
  cases (show dy'=s.drawn from mv.drawn)
  cases (show oy=s.os from mv.os)
  exact ⟨rfl,out hy ty' dy kp⟩
end
def ptK(L:List (Key×V)):List (Key×V):=L.foldl (fun N p=>putK N p.1 p.2) []
theorem ptK_snoc(L:List (Key×V))(p:Key×V):ptK (L++[p])=putK (ptK L) p.1 p.2:=by
 unfold ptK
 rw [List.foldl_append]
 rfl
theorem ptK_rel{L:List (Key×V)}{xs:List (Key×Value)}(r:KV L xs):KV (ptK L) (stK xs):=by
 have go:∀ {L:List (Key×V)} {xs:List (Key×Value)},KV L xs->∀ {N:List (Key×V)} {ys:List (Key×Value)},KV N ys->KV (L.foldl (fun N p=>putK N p.1 p.2) N) (xs.foldl (fun xs p=>stored xs p.1 p.2) ys):=by
  intro L xs r
  unfold KV at r
  induction r with
  | nil=>exact fun q=>q
  | @cons p q l m h t ih =>
   intro N ys rn
   obtain ⟨h1,h3⟩:=h
   rw [List.foldl_cons,List.foldl_cons,<-h1]
   exact ih (rn.put p.1 h3)
 exact go r .nil
theorem ptK_len:∀ L:List (Key×V),(ptK L).length<=L.length:=by
 refine snoc_ind (Nat.le_refl _) fun L p ih=>?_
 rw [ptK_snoc,List.length_append]
 have:=x_d (ptK L) p.1 p.2
 exact Nat.le_trans (by lia) (Nat.succ_le_succ ih)
def PrK(H:Hp)(t:Addr)(p:Key×V):Prop:=H t=some (.tup [kV p.1,p.2])
def tDicK(xs:List V)(H:Hp)(Q:VK):Prop:=∃ (l:Addr) (rs:List Addr) (L:List (Key×V)),xs=[.ref l]/\H l=some (.lst (rs.map V.ref))/\Paired (PrK H) rs L/\L.length<=100000/\∀ a,H a=none->Q (.ref a) (upd H a (.dK (ptK L)))
theorem call_dicK{X:Cx}(hc:X.calm=true):CallR X (.type "dict") tDicK:=by
 intro pins s σ H xs us Q I r h
 obtain ⟨l,rs,L,rfl,hl,pr,hz,q⟩:=h
 obtain ⟨u,rfl,ru⟩:=vals1 r
 cases ru
 obtain ⟨its,rv,pl,hzl⟩:=I.list (SqL.of hl)
 clear hzl
 have hlen:its.length=L.length:=by rw [<-rv.length,List.length_map,Paired.length pr]
 obtain ⟨ps,rel,hps⟩:∃ ps:List (Key×Value),KV L ps/\∀ (i:Nat) (p:Key×Value),ps[i]? = some p->∃ t kv,rs[i]? = some t/\PairAt s.heap t kv p.2/\(mixKind X.prog X.w).is p.1 kv=true:=by
  clear hl rv pl hlen hz q
  induction pr with
  | nil=>exact ⟨[],.nil,fun i p h=>by simp at h⟩
  | @cons t p rs L h1 h2 ih =>
   obtain ⟨ps,rel,hps⟩:=ih
   obtain ⟨vs,rv,pt,_⟩:=I.tuple (SqT.of h1)
   cases rv with
   | @cons _ kv _ _ r1 r2 =>
    cases r2 with
    | @cons _ u _ _ r2 r3 =>
     cases r3
     refine ⟨(p.1,u)::ps,.cons ⟨rfl,r2⟩ rel,fun i q hq=>?_⟩
     match i,hq with
     | 0,hq =>
      cases hq
      obtain ⟨o,e,c,n,d⟩:=id pt
      exact ⟨t,kv,rfl,⟨o,n,e,c,d⟩,kV_is r1⟩
     | i+1,hq=>exact hps i q hq
 have hpl:ps.length=L.length:=(Paired.length rel).symm
 refine call_dict_prs (knd:=mixKind X.prog X.w) (ps:=ps) (I.ok.hd hc) pl (by rw [List.size_toArray,hlen,hpl]) (by lia) (fun i v hv=>?_) fun h' tk hD hk=>?_
 ·have hv':its[i]? = some v:=by simpa using hv
  obtain ⟨t,ht,rfl⟩:=vals_ref rv i v hv'
  have il:i<ps.length:=by rw [hpl,<-hlen];exact (List.getElem?_eq_some_iff.mp hv').1
  obtain ⟨t',kv,ht',pa,kk⟩:=hps i _ (List.getElem?_eq_getElem il)
  rw [ht] at ht'
  cases ht'
  exact ⟨t,kv,_,rfl,pa,kk,List.getElem?_eq_getElem il⟩
 ·have hzz:(ptK L).length<=sizeLine:=by have:=ptK_len L;rw [sizeLine_eq];lia
  exact ⟨.ref s.heap.objs.size,_,I.laid (a:=s.heap.objs.size) (o:=.dK (ptK L)) hk (Nat.le_refl _) (dk_new hzz (beq_eq_false_iff_ne.mpr (Ne.symm (Nat.ne_of_lt I.big))) (ptK_rel rel) hD),rfl,q _ (I.hok.fresh (Nat.le_refl _))⟩
end L2
set_option maxHeartbeats 4000000
namespace L2
open PySem
inductive Ev:Str->List PyData->List Int->List Int->Int->Int->Prop
 | not (a x:Int):Ev "not" [] [a] [x] a (2^a.toNat-1-x)
 | and (a x y:Int):Ev "and" [] [a,a] [x,y] a (Builtin.bitAnd x y)
 | or (a x y:Int):Ev "or" [] [a,a] [x,y] a (Builtin.bitOr x y)
 | odd (a x y:Int):Ev "odd" [] [a,a] [x,y] a (Builtin.bitXor x y)
 | sum (a x y:Int):Ev "sum" [] [a,a] [x,y] a ((x+y)%2^a.toNat)
 | less (a x y:Int):Ev "less" [] [a,a] [x,y] a ((x-y)%2^a.toNat)
 | under (a x y:Int):Ev "under" [] [a,a] [x,y] 1 (if x<y then 1 else 0)
 | same (a x y:Int):Ev "same" [] [a,a] [x,y] 1 (if x=y then 1 else 0)
 | choice (a c x y:Int):Ev "choice" [] [1,a,a] [c,x,y] a (if c=1 then x else y)
 | up (k a x:Int) (h0:0<=k) (h1:k<=50):Ev "up" [.int k] [a] [x] a (x*2^k.toNat%2^a.toNat)
 | down (k a x:Int) (h0:0<=k) (h1:k<=50):Ev "down" [.int k] [a] [x] a (x/2^k.toNat)
 | join (a b x y:Int) (h:a+b<=8):Ev "join" [] [a,b] [x,y] (a+b) (x+y*2^a.toNat)
 | cut (f w a x:Int) (h0:0<=f) (h1:0<=w) (h:f+w<=a):Ev "cut" [.int f,.int w] [a] [x] w (x/2^f.toNat%2^w.toNat)
 | table (w a x:Int) (ns:List Int) (h4:a<=4) (hl:(ns.length:Int)=2^a.toNat) (h0:0<=x) (h1:x<2^a.toNat):Ev "table" [.int w,.tuple (ns.map PyData.int)] [a] [x] w (ns.getD x.toNat 0)
theorem Ev.word{z:Str}{hd:List PyData}{ws vs:List Int}{w v:Int}(h:Ev z hd ws vs w v):z∈words/\z ≠ "wire" /\ z ≠ "number" := by
 cases h<;>exact ⟨by decide,by decide,by decide⟩
theorem Ev.form{z:Str}{hd:List PyData}{ws vs:List Int}{w v:Int}(h:Ev z hd ws vs w v):formK z=hd.length+1/\hd.length<=2/\ws.length=vs.length/\ws.length<=3:=by
 cases h<;>exact ⟨by simp only [List.length_cons,List.length_nil];decide,by simp,rfl,by simp⟩
theorem pow_pos2(n:Nat):(0:Int)<2^n:=by rw [cast_pow];have:0<2^n:=Nat.pow_pos (by decide);lia
theorem pow_le2{n:Nat}(h:n<=50):(2:Int)^n<=1125899906842624:=by
 have h1:(2:Nat)^n<=2^50:=Nat.pow_le_pow_right (by decide) h
 rw [cast_pow]
 generalize 2^n=N at h1
 lia
theorem dats_ints{H:Hp}:∀ {ns:List Int} {xs:List V},Dats H (ns.map PyData.int) xs->xs=ns.map V.int
 | [],xs,h=>h.nilI
 | n::ns,xs,h=>by
  obtain ⟨x,r,rfl,h1,h2⟩:=Dats.consI h
  rw [h1.intI,dats_ints h2]
  rfl
theorem join_lenM(us:List Str):(Txt.join "" us).length=(us.map (·.length)).sum:=by
 have h1:Txt.join "" us=Str.join "" us:=StrLaws.glued_eq_join "" us
 rw [h1]
 clear h1
 induction us with
 | nil=>rfl
 | cons a r ih =>
  cases r with
  | nil=>simp [Str.join]
  | cons b r =>
   rw [List.map_cons,List.sum_cons,<-ih]
   show (a ++ "" ++ Str.join "" (b::r)).length=_
   rw [Str.length_append,Str.length_append]
   show a.length+0+_=_
   lia
theorem sum_ones{zs:List Str}(h:∀ z∈zs,z.length=1):(zs.map (·.length)).sum<=zs.length:=by
 induction zs with
 | nil=>exact Nat.le_refl _
 | cons z r ih =>
  rw [List.map_cons,List.sum_cons,h z List.mem_cons_self,List.length_cons]
  have:=ih fun y hy=>h y (List.mem_cons_of_mem _ hy)
  lia
def sp_two_to:Sp:=fun vs H Q _=>∃ m:Int,vs=[.int m]/\0<=m/\m<=100/\Q (.int (2^m.toNat)) H
def x_h:Sp:=fun vs H Q _=>∃ (z:Str) (hd subs:List PyData) (v:V),vs=[v]/\z∈words/\formK z=hd.length+1/\hd.length<=2/\Dat H (.tuple (.str z::(hd++subs))) v/\∀ p xs H',Same H H'->H' p=some (.tup xs)->Dats H' subs xs->Q (.ref p) H'
def sp_width_over:Sp:=fun vs H Q _=>∃ (z:Str) (hd subs:List PyData) (v:V) (pi:Addr) (ws us:List Int) (w val:Int),vs=[v,.ref pi]/\Dat H (.tuple (.str z::(hd++subs))) v/\H pi=some (.lst (ws.map V.int))/\Ev z hd ws us w val/\(∀ a∈ws,1<=a/\a<=8)/\∀ H',Same H H'->Q (.int w) H'
def sp_of_one:Sp:=fun vs H Q _=>∃ (z:Str) (hd subs:List PyData) (v:V) (a x w val:Int),vs=[v,.int w,.int x]/\Dat H (.tuple (.str z::(hd++subs))) v/\Ev z hd [a] [x] w val/\(1<=a/\a<=8)/\(1<=w/\w<=8)/\∀ H',Same H H'->Q (.int val) H'
def sp_of_two:Sp:=fun vs H Q _=>∃ (z:Str) (a x y w val:Int),vs=[.str z,.int w,.int x,.int y]/\Ev z [] [a,a] [x,y] w val/\z ≠ "join" /\ (1<=a/\a<=8)/\(1<=w/\w<=8)/\Q (.int val) H
def Ms(wk nk:List (Key×V)):Nat->PyData->Int->Int->Prop
 | 0,_,_,_=>False
 | n+1,d,w,v=>(1<=w/\w<=8)/\((∃ x:Str,d = .tuple [.str "wire",.str x]/\valV wk (.inr x)=some (.int w)/\valV nk (.inr x)=some (.int v))\/d = .tuple [.str "number",.int v,.int w] \/
  ∃ (z:Str) (hd subs:List PyData) (ws us:List Int),d = .tuple (.str z::(hd++subs))/\Ev z hd ws us w v/\subs.length=ws.length/\(∀ a∈ws,1<=a/\a<=8)/\∀ (i:Nat) (s:PyData),subs[i]? = some s->∃ (a x:Int),ws[i]? = some a/\us[i]? = some x/\Ms wk nk n s a x)
def sp_meas(n:Nat):Sp:=fun vs H Q _=>∃ (d:PyData) (v:V) (wd nd:Addr) (wk nk:List (Key×V)) (w x:Int),vs=[v,.ref wd,.ref nd]/\Dat H d v/\H wd=some (.dK wk)/\H nd=some (.dK nk)/\Ms wk nk n d w x/\∀ p H',H p=none->Same H H'->H' p=some (.tup [.int w,.int x])->Q (.ref p) H'
def sp_worth(n:Nat):Sp:=fun vs H Q _=>∃ (d:PyData) (v:V) (wd nd:Addr) (wk nk:List (Key×V)) (w x:Int),vs=[v,.ref wd,.ref nd]/\Dat H d v/\H wd=some (.dK wk)/\H nd=some (.dK nk)/\Ms wk nk n d w x/\∀ H',Same H H'->Q (.int x) H'
theorem dget{H:Hp}{a:Addr}{kvs:List (Key×V)}{x:Str}{v:V}(h:H a=some (.dK kvs))(e:valV kvs (.inr x)=some v):DGet H a (.str x) (some v):=by
 have:=DGet.k (k:=.inr x) h
 rw [e] at this
 exact this
theorem fn_none{P:Program}{w:World}{K:PySem.W.Frag}{mg:Str->Option Value}{base:Heap}{k:Nat}{f:Addr}{fd:FuncData}{ps:List Str}{sp:Sp}(h:∀ vs H Q E,¬sp vs H Q E):FnOk P w K mg base CX0 k f fd ps sp :=
 ⟨fun vs H Q E q=>(h _ _ _ _ q).elim,fun _ _ _ _ _ _ _ _ _ _ _ _ _ q=>(h _ _ _ _ q).elim⟩
def sp_law(K:PySem.W.Frag):Sp:=fun vs H Q _=>∃ (a:Addr) (ns:List Int),vs=[.ref a]/\SqL K H a (ns.map V.int)/\ns.length<=63/\∀ H',Q (.bl true) H'
theorem at0M{xs:List V}{i:Nat}{v:V}(h:xs[i]? = some v):atI xs (0+(i:Int))=some v:=by rw [Int.zero_add];exact z_u h
def nv_any:Sp:=fun _ _ _ _=>False
theorem no_fn{P:Program}{w:World}{K:PySem.W.Frag}{mg:Str->Option Value}{base:Heap}{k:Nat}{f:Addr}{fd:FuncData}{ps:List Str}:FnOk P w K mg base CX0 k f fd ps nv_any:=fn_none fun _ _ _ _ h=>h
theorem call_lenR{X:Cx}:CallR X (.builtin "len") (fun xs H Q=>∃ a kvs,xs=[V.ref a]/\Rd H a (.dK kvs)/\Q (.int kvs.length) H):=by
 intro pins s σ H xs us Q I r h
 obtain ⟨a,kvs,rfl,ha,q⟩:=h
 obtain ⟨u,rfl,ru⟩:=vals1 r
 cases ru
 exact d_len I ha fun t s' I'=>⟨.int kvs.length,H,I',⟨t,rfl⟩,q⟩
def Ren(a:Str):Nat->PyData->PyData->Prop
 | 0,_,_=>False
 | n+1,d,d'=>(∃ x:Str,d = .tuple [.str "wire",.str x]/\d' = .tuple [.str "wire",.str (a++x)]/\(a++x).length<=100000) \/
  ∃ (z:Str) (hd subs subs':List PyData),z∈words/\z ≠ "wire" /\ formK z=hd.length+1/\hd.length<=2/\subs.length<=3/\d = .tuple (.str z::(hd++subs))/\d' = .tuple (.str z::(hd++subs'))/\Paired (Ren a n) subs subs'
def sp_ren(n:Nat):Sp:=fun vs H Q _=>∃ (d d':PyData) (v:V) (a:Str),vs=[v,.str a]/\Dat H d v/\Ren a n d d'/\∀ v' H',Same H H'->Dat H' d' v'->Q v' H'
def Sam(H:Hp):Nat->V->V->Prop
 | 0,v,u=>∃ i:Int,v = .int i/\u = .int i
 | n+1,v,u=>∃ (p q:Addr) (xs ys:List V),v = .ref p/\u = .ref q/\H p=some (.lst xs)/\H q=some (.lst ys)/\xs.length<=100/\Paired (Sam H n) xs ys
theorem Sam.same{H H':Hp}(s:Same H H'):∀ {n:Nat} {v u:V},Sam H n v u->Sam H' n v u
 | 0,_,_,h=>h
 | n+1,_,_,h=>by
  obtain ⟨p,q,xs,ys,h1,h2,h3,h4,h5,h6⟩:=h
  exact ⟨p,q,xs,ys,h1,h2,s _ _ h3,s _ _ h4,h5,z_r (fun _ _ z=>Sam.same s z) h6⟩
def sp_same(n:Nat):Sp:=fun vs H Q _=>∃ v u:V,vs=[v,u]/\(∃ m,n=m+1/\Sam H m v u)/\∀ H',Same H H'->Q (.bl true) H'
def letters:Str := "bfghjkmpqvxyzacdeilnorst"
def words16:List Str:=["not", "and", "or", "odd", "sum", "less", "under", "same", "choice", "up", "down", "join", "cut", "table", "wire", "number"]
def nmK(a b:Str)(k:Nat):Str:=a++⟨#[letters.cps.toList.getD k 0]⟩++b
def nmQ(a b:Str)(k:Nat):Str:=nmK a b k++(if nmK a b k∈words16 then "q" else "")
theorem cps_app(a b:Str):(a++b).cps.toList=a.cps.toList++b.cps.toList:=by
 show (a.cps++b.cps).toList=_
 rw [Array.toList_append]
theorem letters_inj:∀ j k,j<24->k<24->letters.cps.toList.getD j 0=letters.cps.toList.getD k 0->j=k:=by
 have h:letters.cps.toList.Nodup:=by decide +kernel
 have hl:letters.cps.toList.length=24:=by decide +kernel
 intro j k hj hk e
 rw [List.getD_eq_getElem?_getD,List.getD_eq_getElem?_getD,List.getElem?_eq_getElem (by lia),List.getElem?_eq_getElem (by lia)] at e
 have pw:=List.pairwise_iff_getElem.mp h
 rcases Nat.lt_trichotomy j k with lt | eq | gt
 ·exact absurd e (pw j k (by lia) (by lia) lt)
 ·exact eq
 ·exact absurd e.symm (pw k j (by lia) (by lia) gt)
theorem nmK_len(a b:Str)(k:Nat):(nmK a b k).length=a.length+1+b.length:=by
 unfold nmK
 rw [Str.length_append,Str.length_append]
 rfl
theorem nmK_inj{a b:Str}{j k:Nat}(hj:j<24)(hk:k<24)(e:nmK a b j=nmK a b k):j=k:=by
 unfold nmK at e
 have h:=congrArg (fun z:Str=>z.cps.toList) e
 simp only [cps_app] at h
 have h1:=List.append_cancel_right h
 have h2:=List.append_cancel_left h1
 injection h2 with h3
 exact letters_inj j k hj hk h3
theorem nmQ_inj{a b:Str}{j k:Nat}(hj:j<24)(hk:k<24)(e:nmQ a b j=nmQ a b k):j=k:=by
 have hl:(nmQ a b j).length=(nmQ a b k).length:=by rw [e]
 unfold nmQ at e hl
 rw [Str.length_append,Str.length_append,nmK_len,nmK_len] at hl
 have q1:("q" : Str).length=1:=rfl
 have q0:("" : Str).length=0:=rfl
 have h:=congrArg (fun z:Str=>z.cps.toList) e
 by_cases cj:nmK a b j∈words16
 ·by_cases ck:nmK a b k∈words16
  ·rw [if_pos cj,if_pos ck] at h
   simp only [cps_app] at h
   refine nmK_inj (a:=a) (b:=b) hj hk ?_
   have h2:=List.append_cancel_right h
   generalize nmK a b j=x at h2
   generalize nmK a b k=y at h2
   obtain ⟨⟨x⟩⟩:=x
   obtain ⟨⟨y⟩⟩:=y
   simpa using h2
  ·rw [if_pos cj,if_neg ck] at hl
   lia
 ·by_cases ck:nmK a b k∈words16
  ·rw [if_neg cj,if_pos ck] at hl
   lia
  ·rw [if_neg cj,if_neg ck] at h
   simp only [cps_app] at h
   refine nmK_inj (a:=a) (b:=b) hj hk ?_
   have h2:=List.append_cancel_right h
   generalize nmK a b j=x at h2
   generalize nmK a b k=y at h2
   obtain ⟨⟨x⟩⟩:=x
   obtain ⟨⟨y⟩⟩:=y
   simpa using h2
theorem names_nodup(a b:Str){m:Nat}(h:m<=24):((List.range m).map (nmQ a b)).Nodup:=by
 refine List.pairwise_map.mpr (List.Pairwise.imp_of_mem ?_ List.pairwise_lt_range)
 intro x y hx hy lt e
 rw [List.mem_range] at hx hy
 have:=nmQ_inj (a:=a) (b:=b) (by lia) (by lia) e
 lia
theorem nmQ_len(a b:Str)(k:Nat):(nmQ a b k).length<=a.length+b.length+2:=by
 unfold nmQ
 rw [Str.length_append,nmK_len]
 have q1:("q" : Str).length=1:=rfl
 have q0:("" : Str).length=0:=rfl
 split<;>lia
theorem ok_app{a b:Str}(ha:PyData.strOk a=true)(hb:PyData.strOk b=true):PyData.strOk (a++b)=true:=by
 unfold PyData.strOk at *
 show (a.cps++b.cps).all _=true
 rw [Array.all_append,ha,hb]
 rfl
theorem ok_join:∀ {us:List Str},(∀ u∈us,PyData.strOk u=true)->PyData.strOk (Txt.join "" us)=true:=by
 intro us h
 rw [show Txt.join "" us=Str.join "" us from StrLaws.glued_eq_join "" us]
 induction us with
 | nil=>show PyData.strOk Str.empty=true;decide +kernel
 | cons a r ih =>
  cases r with
  | nil=>exact h a List.mem_cons_self
  | cons b r =>
   show PyData.strOk (a ++ "" ++ Str.join "" (b::r))=true
   exact ok_app (ok_app (h a List.mem_cons_self) (by decide +kernel)) (ih fun u hu=>h u (List.mem_cons_of_mem _ hu))
theorem ok_one{c:Nat}(h:c<0x110000):PyData.strOk ⟨#[c]⟩=true:=by
 unfold PyData.strOk
 simp [h]
theorem abc_ok:∀ c∈("abcdefghijklmnopqrstuvwxyz" : Str).cps.toList,c<0x110000:=by decide +kernel
theorem letters_ok(k:Nat):letters.cps.toList.getD k 0<0x110000:=by
 have h:∀ c∈letters.cps.toList,c<0x110000:=by decide +kernel
 rw [List.getD_eq_getElem?_getD]
 cases e:letters.cps.toList[k]? with
 | none=>decide
 | some c=>exact h c (List.mem_of_getElem? e)
theorem nmQ_ok{a b:Str}(ha:PyData.strOk a=true)(hb:PyData.strOk b=true)(k:Nat):PyData.strOk (nmQ a b k)=true:=by
 unfold nmQ nmK
 refine ok_app (ok_app (ok_app ha (ok_one (letters_ok k))) hb) ?_
 split<;>decide +kernel
theorem inV_strs(z:Str):∀ ws:List Str,inV (V.str z) (ws.map V.str)=decide (z∈ws)
 | []=>rfl
 | a::ws=>by
  have ih:=inV_strs z ws
  unfold inV at ih ⊢
  rw [List.map_cons,List.any_cons,ih]
  by_cases h:a=z
  ·subst h
   simp [eqV]
  ·have h':¬z=a:=fun e=>h e.symm
   simp [eqV,h,h']
theorem two_ad{α:Type}{l:List α}(h:l.length=2):∃ a b,l=[a,b]:=by
 obtain ⟨a,r,rfl⟩:=List.exists_cons_of_length_eq_add_one h
 obtain ⟨b,r,rfl⟩:=List.exists_cons_of_length_eq_add_one (Nat.succ.inj h)
 exact ⟨a,b,by rw [List.eq_nil_of_length_eq_zero (Nat.succ.inj (Nat.succ.inj h))]⟩
def sp_pool:Sp:=fun vs H Q _=>∃ (l:Addr) (m:Nat),vs=[.ref l,.int (m:Int)]/\Bag H l/\m<=24/\∀ p (zs:List Str) H',zs.length=m->zs.Nodup->(∀ z∈zs,z.length<=20/\PyData.strOk z=true)->p≠l->H p=none->Bg l H H'->H' p=some (.lst (zs.map V.str))->Q (.ref p) H'
theorem val_pt:∀ L:List (Key×V),(∀ p∈L,∀ q∈L,p.1=q.1->p.2=q.2)->∀ p∈L,valV (ptK L) p.1=some p.2:=by
 refine snoc_ind (fun _ p hp=>nomatch hp) fun L r ih hf p hp=>?_
 rw [ptK_snoc,valV_put]
 by_cases h:p.1=r.1
 ·rw [if_pos h,hf p hp r (List.mem_append_right _ (List.mem_singleton.mpr rfl)) h]
 ·rw [if_neg h]
  rcases List.mem_append.mp hp with q | q
  ·exact ih (fun a ha b hb=>hf a (List.mem_append_left _ ha) b (List.mem_append_left _ hb)) p q
  ·rw [List.mem_singleton.mp q] at h
   exact absurd rfl h
structure Bx where
 nm:List Str
 I:Nat
 B:Nat
 W:Nat
 fs:List Int
 src:List (Nat×Nat)
 outs:List Nat
 ord:List Nat
structure Bx.Ok(P:Bx):Prop where
 hi:1<=P.I/\P.I<=3
 hb:1<=P.B/\P.B<=8
 hw:1<=P.W/\P.W<=8
 nl:P.nm.length=P.I+P.B
 nd:P.nm.Nodup
 ns:∀ z∈P.nm,z.length<=20
 nk:∀ z∈P.nm,PyData.strOk z=true
 fl:P.fs.length=P.B
 sl:P.src.length=P.B
 sr:∀ s∈P.src,s.1<P.I+P.B/\s.2<2
 ol:P.outs.length<=8
 oo:∀ k∈P.outs,k<P.I+P.B
 rl:P.ord.length=P.B
 ro:∀ k∈P.ord,k<P.B
 ra:∀ k,k<P.B->k∈P.ord
namespace Bx
variable (P:Bx)
def n(j:Nat):Str:=P.nm.getD j ""
def s(k:Nat):Nat×Nat:=P.src.getD k (0,0)
def f(k:Nat):Int:=P.fs.getD k 0
def say(k:Nat):PyData:=if (P.s k).2=0 then .tuple [.str "wire",.str (P.n (P.s k).1)] else .tuple [.str "not",.tuple [.str "wire",.str (P.n (P.s k).1)]]
def row(k:Nat):PyData:=.tuple [.str "box",.str (P.n (P.I+k)),.int P.W,.int (P.f k),P.say k]
def door(j:Nat):PyData:=.tuple [.str (P.n j),.int P.W]
def doors:List PyData:=(List.range P.I).map P.door
def part:PyData:=.tuple [.str "a",.tuple P.doors,.tuple (P.outs.map P.door),.tuple (P.ord.map P.row)]
def nx(nums:List Int)(k:Nat):Int:=if (P.s k).2=0 then nums.getD (P.s k).1 0 else 2^P.W-1-nums.getD (P.s k).1 0
def nxt(nums:List Int):List Int:=(List.range P.B).map (P.nx nums)
def told(nums:List Int):List Int:=P.outs.map fun k=>nums.getD k 0
def step(s:List Int×List (List Int))(g:List Int):List Int×List (List Int):=(P.nxt (g++s.1),s.2++[P.told (g++s.1)])
def run(st:List Int)(bs:List (List Int)):List Int×List (List Int):=bs.foldl P.step (st,[])
theorem run_snoc{st:List Int}{bs:List (List Int)}{i:Nat}{g:List Int}(e:bs[i]? = some g):P.run st (bs.take (i+1))=P.step (P.run st (bs.take i)) g:=by
 unfold run
 rw [x_i e,List.foldl_append]
 rfl
theorem fold_more:∀ (bs:List (List Int)) (s:List Int×List (List Int)),∃ t,(bs.foldl P.step s).2=s.2++t/\t.length=bs.length
 | [],s=>⟨[],by simp,rfl⟩
 | g::bs,s=>by
  obtain ⟨t,h1,h2⟩:=fold_more bs (P.step s g)
  refine ⟨P.told (g++s.1)::t,?_,by rw [List.length_cons,List.length_cons,h2]⟩
  rw [List.foldl_cons,h1]
  show (s.2++[_])++t=_
  rw [List.append_assoc]
  rfl
theorem run_len(st:List Int)(bs:List (List Int)):(P.run st bs).2.length=bs.length:=by
 obtain ⟨t,h1,h2⟩:=P.fold_more bs (st,[])
 unfold run
 rw [h1,List.nil_append,h2]
theorem run_take(st:List Int)(bs:List (List Int))(n:Nat):(P.run st (bs.take n)).2=(P.run st bs).2.take n:=by
 by_cases h:n<=bs.length
 ·obtain ⟨t,h1,h2⟩:=P.fold_more (bs.drop n) (P.run st (bs.take n))
  have e:P.run st bs=(bs.drop n).foldl P.step (P.run st (bs.take n)):=by
   unfold run
   rw [<-List.foldl_append,List.take_append_drop]
  have l:=P.run_len st (bs.take n)
  rw [List.length_take,Nat.min_eq_left h] at l
  rw [e,h1]
  exact (List.take_left' l).symm
 ·rw [List.take_of_length_le (by lia),List.take_of_length_le (by rw [run_len];lia)]
theorem st_len(st:List Int)(h:st.length=P.B):∀ bs:List (List Int),(P.run st bs).1.length=P.B:=by
 refine snoc_ind h fun bs g ih=>?_
 unfold run
 rw [List.foldl_append]
 show (P.nxt _).length=_
 unfold nxt
 rw [List.length_map,List.length_range]
theorem told_len(x:List Int):(P.told x).length=P.outs.length:=List.length_map _
end Bx
variable {P:Bx}
theorem Bx.Ok.n_mem(ok:P.Ok){j:Nat}(h:j<P.I+P.B):P.n j∈P.nm:=by
 unfold Bx.n
 rw [List.getD_eq_getElem?_getD,List.getElem?_eq_getElem (by rw [ok.nl];exact h)]
 exact List.getElem_mem _
theorem Bx.Ok.n_inj(ok:P.Ok){i j:Nat}(hi:i<P.I+P.B)(hj:j<P.I+P.B)(e:P.n i=P.n j):i=j:=by
 unfold Bx.n at e
 rw [List.getD_eq_getElem?_getD,List.getD_eq_getElem?_getD,List.getElem?_eq_getElem (by rw [ok.nl];exact hi),List.getElem?_eq_getElem (by rw [ok.nl];exact hj)] at e
 have pw:=List.pairwise_iff_getElem.mp ok.nd
 rcases Nat.lt_trichotomy i j with lt | eq | gt
 ·exact absurd e (pw i j _ _ lt)
 ·exact eq
 ·exact absurd e.symm (pw j i _ _ gt)
theorem Bx.Ok.s_lt(ok:P.Ok){k:Nat}(h:k<P.B):(P.s k).1<P.I+P.B/\(P.s k).2<2:=by
 unfold Bx.s
 rw [List.getD_eq_getElem?_getD,List.getElem?_eq_getElem (by rw [ok.sl];exact h)]
 exact ok.sr _ (List.getElem_mem _)
def Bx.Num(P:Bx)(kvs:List (Key×V))(nums:List Int):Prop:=∀ j,j<P.I+P.B->valV kvs (.inr (P.n j))=some (.int (nums.getD j 0))
def Bx.Wid(P:Bx)(kvs:List (Key×V)):Prop:=∀ j,j<P.I+P.B->valV kvs (.inr (P.n j))=some (.int P.W)
def Bx.Std(P:Bx)(kvs:List (Key×V))(st:List Int):Prop:=∀ k,k<P.B->valV kvs (.inr (P.n (P.I+k)))=some (.int (st.getD k 0))
theorem Bx.Ok.ms(ok:P.Ok){wk nk:List (Key×V)}{nums:List Int}(hw:P.Wid wk)(hn:P.Num nk nums){k:Nat}(h:k<P.B):Ms wk nk 6 (P.say k) P.W (P.nx nums k):=by
 obtain ⟨h1,h2⟩:=ok.s_lt h
 have w8:=ok.hw
 have b8:(1:Int)<=P.W/\(P.W:Int)<=8:=by lia
 unfold Bx.say Bx.nx
 by_cases c:(P.s k).2=0
 ·rw [if_pos c,if_pos c]
  exact ⟨b8,.inl ⟨_,rfl,hw _ h1,hn _ h1⟩⟩
 ·rw [if_neg c,if_neg c]
  have:=Ev.not (P.W:Int) (nums.getD (P.s k).1 0)
  rw [Int.toNat_natCast] at this
  refine ⟨b8,.inr (.inr ⟨"not",[],[_],[(P.W:Int)],[nums.getD (P.s k).1 0],rfl,this,rfl,fun a ha=>by rw [List.mem_singleton.mp ha];exact b8,fun i s hi=>?_⟩)⟩
  cases i with
  | zero=>cases hi;exact ⟨_,_,rfl,rfl,b8,.inl ⟨_,rfl,hw _ h1,hn _ h1⟩⟩
  | succ i=>simp at hi
theorem Bx.Ok.ren(ok:P.Ok){k:Nat}(h:k<P.B):Ren "" 6 (P.say k) (P.say k):=by
 obtain ⟨h1,h2⟩:=ok.s_lt h
 have hl:=ok.ns _ (ok.n_mem h1)
 have e:("" : Str)++P.n (P.s k).1=P.n (P.s k).1:=Str.empty_append _
 have w:∀ m,Ren "" (m+1) (.tuple [.str "wire",.str (P.n (P.s k).1)]) (.tuple [.str "wire",.str (P.n (P.s k).1)]):=fun m=>.inl ⟨_,rfl,by rw [e],by rw [e];lia⟩
 unfold Bx.say
 split
 ·exact w 5
 ·exact .inr ⟨"not",[],[_],[_],by decide,by decide,rfl,Nat.zero_le _,by simp,rfl,rfl,.cons (w 4) .nil⟩
theorem Bx.noL_say(k:Nat):noL (P.say k)=true:=by
 unfold Bx.say
 split<;>simp [noL,noLs]
theorem Bx.row_at{H:Hp}{k:Nat}{v:V}(h:Dat H (P.row k) v):∃ r sv,v = .ref r/\H r=some (.tup [.str "box",.str (P.n (P.I+k)),.int P.W,.int (P.f k),sv])/\Dat H (P.say k) sv:=by
 obtain ⟨r,xs,rfl,hr,hx⟩:=Dat.tupI h
 obtain ⟨x0,r0,rfl,h0,hx⟩:=hx.consI
 obtain ⟨x1,r1,rfl,h1,hx⟩:=hx.consI
 obtain ⟨x2,r2,rfl,h2,hx⟩:=hx.consI
 obtain ⟨x3,r3,rfl,h3,hx⟩:=hx.consI
 obtain ⟨x4,r4,rfl,h4,hx⟩:=hx.consI
 have f0:x0 = .str "box" := by unfold Dat at h0;exact h0
 have f1:x1 = .str (P.n (P.I+k)):=by unfold Dat at h1;exact h1
 have f2:=h2.intI
 have f3:=h3.intI
 have f5:=hx.nilI
 subst f0 f1 f2 f3 f5
 exact ⟨r,x4,rfl,hr,h4⟩
theorem Bx.door_at{H:Hp}{j:Nat}{v:V}(h:Dat H (P.door j) v):∃ r,v = .ref r/\H r=some (.tup [.str (P.n j),.int P.W]):=by
 obtain ⟨r,xs,rfl,hr,hx⟩:=Dat.tupI h
 obtain ⟨x0,r0,rfl,h0,hx⟩:=hx.consI
 obtain ⟨x1,r1,rfl,h1,hx⟩:=hx.consI
 have f0:x0 = .str (P.n j):=by unfold Dat at h0;exact h0
 have f1:=h1.intI
 have f5:=hx.nilI
 subst f0 f1 f5
 exact ⟨r,rfl,hr⟩
theorem Bx.part_at{H:Hp}{v:V}(h:Dat H P.part v):∃ r pd po pr ds os rs,v = .ref r/\H r=some (.tup [.str "a",.ref pd,.ref po,.ref pr])/\H pd=some (.tup ds)/\H po=some (.tup os)/\H pr=some (.tup rs)/\Dats H P.doors ds/\Dats H (P.outs.map P.door) os/\Dats H (P.ord.map P.row) rs:=by
 obtain ⟨r,xs,rfl,hr,hx⟩:=Dat.tupI h
 obtain ⟨x0,r0,rfl,h0,hx⟩:=hx.consI
 obtain ⟨x1,r1,rfl,h1,hx⟩:=hx.consI
 obtain ⟨x2,r2,rfl,h2,hx⟩:=hx.consI
 obtain ⟨x3,r3,rfl,h3,hx⟩:=hx.consI
 have f0:x0 = .str "a" := by unfold Dat at h0;exact h0
 have f5:=hx.nilI
 subst f0 f5
 obtain ⟨pd,ds,rfl,e1,d1⟩:=Dat.tupI h1
 obtain ⟨po,os,rfl,e2,d2⟩:=Dat.tupI h2
 obtain ⟨pr,rs,rfl,e3,d3⟩:=Dat.tupI h3
 exact ⟨r,pd,po,pr,ds,os,rs,rfl,hr,e1,e2,e3,d1,d2,d3⟩
theorem Bx.doors_prs{H:Hp}:∀ {js:List Nat} {xs:List V},Dats H (js.map P.door) xs->∃ rs:List Addr,xs=rs.map V.ref/\Paired (PrK H) rs (js.map fun j=>((.inr (P.n j):Key),V.int P.W))
 | [],xs,h=>⟨[],h.nilI,.nil⟩
 | j::js,xs,h=>by
  obtain ⟨x,r,rfl,h1,h2⟩:=Dats.consI h
  obtain ⟨rr,rfl,hr⟩:=Bx.door_at h1
  obtain ⟨rs,rfl,hp⟩:=Bx.doors_prs h2
  exact ⟨rr::rs,rfl,.cons hr hp⟩
theorem Bx.Ok.std(ok:P.Ok){g:Nat->Int}{st:List Int}(h:∀ k,k<P.B->st.getD k 0=g k):P.Std (ptK (P.ord.map fun k=>((.inr (P.n (P.I+k)):Key),V.int (g k)))) st:=by
 intro k hk
 rw [h k hk]
 refine val_pt _ (fun p hp q hq e=>?_) ((.inr (P.n (P.I+k)):Key),V.int (g k)) (List.mem_map.mpr ⟨k,ok.ra k hk,rfl⟩)
 obtain ⟨a,ha,rfl⟩:=List.mem_map.mp hp
 obtain ⟨b,hb,rfl⟩:=List.mem_map.mp hq
 have e':P.n (P.I+a)=P.n (P.I+b):=Sum.inr.inj e
 have h1:=ok.ro a ha
 have h2:=ok.ro b hb
 have:=ok.n_inj (by lia) (by lia) e'
 have:a=b:=by lia
 rw [this]
theorem getD_appL{a b:List Int}{j:Nat}(h:j<a.length):(a++b).getD j 0=a.getD j 0:=by
 rw [List.getD_eq_getElem?_getD,List.getElem?_append_left h,<-List.getD_eq_getElem?_getD]
theorem getD_appR{a b:List Int}{j:Nat}(h:a.length<=j):(a++b).getD j 0=b.getD (j-a.length) 0:=by
 rw [List.getD_eq_getElem?_getD,List.getElem?_append_right h,<-List.getD_eq_getElem?_getD]
theorem map_range_getD{n k:Nat}{f:Nat->Int}(h:k<n):((List.range n).map f).getD k 0=f k:=by
 rw [List.getD_eq_getElem?_getD,List.getElem?_map,List.getElem?_range h]
 rfl
def Bx.Prt(P:Bx)(kvs:List (Key×V))(st g:List Int)(i:Nat):Prop:=P.Std kvs st/\∀ j,j<i->valV kvs (.inr (P.n j))=some (.int (g.getD j 0))
theorem Bx.Ok.prt_put(ok:P.Ok){kvs:List (Key×V)}{st g:List Int}{i:Nat}(h:P.Prt kvs st g i)(hi:i<P.I):P.Prt (putK kvs (.inr (P.n i)) (.int (g.getD i 0))) st g (i+1):=by
 refine ⟨fun k hk=>?_,fun j hj=>?_⟩
 ·rw [valV_put,if_neg]
  ·exact h.1 k hk
  ·intro e
   have:=ok.n_inj (by lia) (by lia) (Sum.inr.inj e)
   lia
 ·rw [valV_put]
  by_cases c:j=i
  ·subst c
   rw [if_pos rfl]
  ·rw [if_neg]
   ·exact h.2 j (by lia)
   ·intro e
    have:=ok.n_inj (by lia) (by lia) (Sum.inr.inj e)
    lia
theorem Bx.Prt.num{kvs:List (Key×V)}{st g:List Int}(h:P.Prt kvs st g P.I)(hg:g.length=P.I):P.Num kvs (g++st):=by
 intro j hj
 by_cases c:j<P.I
 ·rw [getD_appL (by lia)]
  exact h.2 j c
 ·rw [getD_appR (by lia),hg]
  have:=h.1 (j-P.I) (by lia)
  rw [show P.I+(j-P.I)=j by lia] at this
  exact this
def Bx.Wdt(P:Bx)(kvs:List (Key×V))(ks:List Nat):Prop:=(∀ j,j<P.I->valV kvs (.inr (P.n j))=some (.int P.W))/\∀ k∈ks,valV kvs (.inr (P.n (P.I+k)))=some (.int P.W)
theorem Bx.Wdt.put{kvs:List (Key×V)}{ks:List Nat}(h:P.Wdt kvs ks)(k:Nat):P.Wdt (putK kvs (.inr (P.n (P.I+k))) (.int P.W)) (ks++[k]):=by
 refine ⟨fun j hj=>?_,fun k' hk'=>?_⟩
 ·rw [valV_put]
  split
  ·rfl
  ·exact h.1 j hj
 ·rw [valV_put]
  split
  ·rfl
  ·rename_i c
   rcases List.mem_append.mp hk' with z | z
   ·exact h.2 k' z
   ·rw [List.mem_singleton.mp z] at c
    exact absurd rfl c
theorem Bx.Ok.wid(ok:P.Ok){kvs:List (Key×V)}(h:P.Wdt kvs P.ord):P.Wid kvs:=by
 intro j hj
 by_cases c:j<P.I
 ·exact h.1 j c
 ·have:=h.2 (j-P.I) (ok.ra _ (by lia))
  rw [show P.I+(j-P.I)=j by lia] at this
  exact this
theorem Bx.Ok.wdt0(ok:P.Ok):P.Wdt (ptK ((List.range P.I).map fun j=>((.inr (P.n j):Key),V.int P.W))) []:=by
 refine ⟨fun j hj=>?_,fun k hk=>nomatch hk⟩
 refine val_pt _ (fun p hp q hq _=>?_) ((.inr (P.n j):Key),V.int P.W) (List.mem_map.mpr ⟨j,List.mem_range.mpr hj,rfl⟩)
 obtain ⟨a,_,rfl⟩:=List.mem_map.mp hp
 obtain ⟨b,_,rfl⟩:=List.mem_map.mp hq
 rfl
def AllL(H:Hp)(as:List Addr)(n:Nat):Prop:=∀ a∈as,∃ xs,H a=some (.lst xs)/\xs.length<=n
theorem Bx.run_rows(P:Bx)(st:List Int):∀ bs:List (List Int),∀ r∈(P.run st bs).2,r.length=P.outs.length:=by
 refine snoc_ind (fun r hr=>nomatch hr) fun bs g ih r hr=>?_
 unfold Bx.run at hr ih
 rw [List.foldl_append] at hr
 rcases List.mem_append.mp hr with z | z
 ·exact ih r z
 ·rw [List.mem_singleton.mp z]
  exact P.told_len _
theorem pw_all{H:Hp}{rs:List Addr}{rows:List (List Int)}(h:Pw H rs rows){n:Nat}(hn:∀ r∈rows,r.length<=n):AllL H rs n:=fun a ha=>by
 obtain ⟨y,hy,e⟩:=pairedAll h ha
 exact ⟨_,e,by rw [List.length_map];exact hn y hy⟩
theorem sam_ints{H:Hp}{x:List Int}:Paired (Sam H 0) (x.map V.int) (x.map V.int):=by
 induction x with
 | nil=>exact .nil
 | cons i x ih=>exact .cons ⟨i,rfl,rfl⟩ ih
theorem rws_sam{H:Hp}{p q:Addr}{rs ts:List Addr}{rows:List (List Int)}(h1:RwsR H p rs rows)(h2:RwsR H q ts rows)(hl:rows.length<=100)(hr:∀ r∈rows,r.length<=100):Sam H 2 (.ref p) (.ref q):=by
 have l1:=h1.length
 refine ⟨p,q,_,_,rfl,rfl,h1.1,h2.1,by rw [List.length_map];lia,?_⟩
 have go:∀ {rows:List (List Int)} {rs ts:List Addr},Pw H rs rows->Pw H ts rows->(∀ r∈rows,r.length<=100)->Paired (Sam H 1) (rs.map V.ref) (ts.map V.ref):=by
  intro rows
  induction rows with
  | nil =>
   intro rs ts a b _
   cases a
   cases b
   exact .nil
  | cons x rows ih =>
   intro rs ts a b hr
   cases a with
   | cons a1 a2 =>
    cases b with
    | cons b1 b2=>exact .cons ⟨_,_,_,_,rfl,rfl,a1,b1,by rw [List.length_map];exact hr x List.mem_cons_self,sam_ints⟩ (ih a2 b2 fun r hm=>hr r (List.mem_cons_of_mem _ hm))
 exact go h1.2 h2.2 hr
theorem pw_take{H:Hp}{rs:List Addr}{rows:List (List Int)}(h:Pw H rs rows)(n:Nat):Pw H (rs.take n) (rows.take n):=by
 unfold Pw at h ⊢
 induction h generalizing n with
 | nil=>cases n<;>exact .nil
 | cons a b ih =>
  cases n with
  | zero=>exact .nil
  | succ n=>exact .cons a (ih n)
theorem cmpS{n:Nat}{x:Str}(h:PyData.strOk x=true):Cmp n (.str x):=⟨by simp [PyData.canLay0,h],by simp [PyData.depth]⟩
theorem Bx.Ok.okn{P:Bx}(ok:P.Ok)(j:Nat):PyData.strOk (P.n j)=true:=by
 unfold Bx.n
 rw [List.getD_eq_getElem?_getD]
 cases e:P.nm[j]? with
 | none=>show PyData.strOk "" = true;decide +kernel
 | some z=>exact ok.nk z (List.mem_of_getElem? e)
theorem Bx.say_cmp{P:Bx}(ok:P.Ok)(k:Nat):Cmp 2 (P.say k):=by
 unfold Bx.say
 split
 ·refine (Cmp.tuple (n:=0) fun e he=>?_).mono (by decide)
  simp only [List.mem_cons,List.not_mem_nil,or_false] at he
  rcases he with rfl | rfl
  ·exact cmpS (by decide +kernel)
  ·exact cmpS (ok.okn _)
 ·refine Cmp.tuple fun e he=>?_
  simp only [List.mem_cons,List.not_mem_nil,or_false] at he
  rcases he with rfl | rfl
  ·exact cmpS (by decide +kernel)
  ·refine Cmp.tuple (n:=0) fun e he=>?_
   simp only [List.mem_cons,List.not_mem_nil,or_false] at he
   rcases he with rfl | rfl
   ·exact cmpS (by decide +kernel)
   ·exact cmpS (ok.okn _)
theorem Bx.row_cmp{P:Bx}(ok:P.Ok)(k:Nat):Cmp 3 (P.row k):=Cmp.tuple fun e he=>by
 simp only [List.mem_cons,List.not_mem_nil,or_false] at he
 rcases he with rfl | rfl | rfl | rfl | rfl
 ·exact cmpS (by decide +kernel)
 ·exact cmpS (ok.okn _)
 ·exact .int _
 ·exact .int _
 ·exact Bx.say_cmp ok k
theorem Bx.door_cmp{P:Bx}(ok:P.Ok)(k:Nat):Cmp 1 (P.door k):=Cmp.tuple (n:=0) fun e he=>by
 simp only [List.mem_cons,List.not_mem_nil,or_false] at he
 rcases he with rfl | rfl
 ·exact cmpS (ok.okn _)
 ·exact .int _
theorem Bx.part_cmp{P:Bx}(ok:P.Ok):Cmp 5 P.part:=Cmp.tuple fun e he=>by
 simp only [List.mem_cons,List.not_mem_nil,or_false] at he
 rcases he with rfl | rfl | rfl | rfl
 ·exact cmpS (by decide +kernel)
 ·refine (Cmp.tuple (n:=1) fun d hd=>?_).mono (by decide)
  obtain ⟨k,_,rfl⟩:=List.mem_map.mp hd
  exact Bx.door_cmp ok k
 ·refine (Cmp.tuple (n:=1) fun d hd=>?_).mono (by decide)
  obtain ⟨k,_,rfl⟩:=List.mem_map.mp hd
  exact Bx.door_cmp ok k
 ·refine Cmp.tuple (n:=3) fun d hd=>?_
  obtain ⟨k,_,rfl⟩:=List.mem_map.mp hd
  exact Bx.row_cmp ok k
theorem Bx.hand_cmp{P:Bx}(ok:P.Ok)(bs:List (List Int)):Cmp 64 (.list [.list [P.part],dRows bs]):=(Cmp.list (n:=6) fun d hd=>by
 simp only [List.mem_cons,List.not_mem_nil,or_false] at hd
 rcases hd with rfl | rfl
 ·exact Cmp.list fun d hd=>by rw [List.mem_singleton.mp hd];exact Bx.part_cmp ok
 ·refine (Cmp.list (n:=1) fun d hd=>?_).mono (by decide)
  obtain ⟨x,_,rfl⟩:=List.mem_map.mp hd
  exact Cmp.list (Cmp.ints _)).mono (by decide)
def sp_brings:Sp:=fun vs H Q _=>∃ (P:Bx) (pa d:Addr),vs=[.ref pa,.ref d]/\P.Ok/\Dat H P.part (.ref pa)/\Q (.bl true) H
def sp_rowsof:Sp:=fun vs H Q _=>∃ (P:Bx) (pa d:Addr),vs=[.ref pa,.str "",.ref d]/\P.Ok/\Dat H P.part (.ref pa)/\∀ p xs H',H p=none->Same H H'->H' p=some (.lst xs)->Dats H' (P.ord.map P.row) xs->Q (.ref p) H'
def sp_spread15:Sp:=fun vs H Q _=>∃ (P:Bx) (pl pa:Addr),vs=[.ref pl]/\P.Ok/\H pl=some (.lst [.ref pa])/\Dat H P.part (.ref pa)/\∀ t l1 l2 l3 x1 x2 x3 H',Same H H'->(H l1=none/\H l2=none/\H l3=none)->H' t=some (.tup [.ref l1,.ref l2,.ref l3])->H' l1=some (.lst x1)->H' l2=some (.lst x2)->H' l3=some (.lst x3)->Dats H' P.doors x1->Dats H' (P.outs.map P.door) x2->Dats H' (P.ord.map P.row) x3->Q (.ref t) H'
def sp_waits:Sp:=fun vs H Q _=>∃ (P:Bx) (l:Addr) (xs:List V),vs=[.ref l]/\P.Ok/\H l=some (.lst xs)/\Dats H (P.ord.map P.row) xs/\∀ d H',H d=none->Same H H'->H' d=some (.dK [])->Q (.ref d) H'
def sp_order:Sp:=fun vs H Q _=>∃ (P:Bx) (l:Addr) (xs:List V),vs=[.ref l]/\P.Ok/\H l=some (.lst xs)/\Dats H (P.ord.map P.row) xs/\∀ p H',H p=none->Same H H'->H' p=some (.lst [])->Q (.ref p) H'
def sp_run15:Sp:=fun vs H Q _=>∃ (P:Bx) (pl pa bt:Addr) (rs:List Addr) (bs:List (List Int)),vs=[.ref pl,.ref bt]/\P.Ok/\H pl=some (.lst [.ref pa])/\Dat H P.part (.ref pa)/\RwsR H bt rs bs/\(∀ g∈bs,g.length=P.I)/\bs.length<=12 /\
 ∀ p ts H',H p=none->(∀ t∈ts,H t=none/\t≠p)->Same H H'->RwsR H' p ts (P.run P.fs bs).2->Q (.ref p) H'
def srcI(P:Bx):List (Int×Int):=P.src.map fun s=>(((s.1:Nat):Int),((s.2:Nat):Int))
def sp_Lrun:Sp:=fun vs H Q _=>∃ (P:Bx) (ps pf po bt:Addr) (rs:List Addr) (bs:List (List Int)),vs=[.ref ps,.ref pf,.ref po,.ref bt,.int (2^P.W-1)]/\P.Ok/\Prs H ps (srcI P)/\H pf=some (.lst (P.fs.map V.int))/\H po=some (.lst ((P.outs.map fun k=>((k:Nat):Int)).map V.int))/\RwsR H bt rs bs/\(∀ g∈bs,g.length=P.I)/\bs.length<=12 /\
 ∀ p ts H',H p=none->(∀ t∈ts,H t=none)->Same H H'->RwsR H' p ts (P.run P.fs bs).2->Q (.ref p) H'
end L2
namespace K15
open PySem L2
def top(i:Nat):Stmt:=PySem.Challenge.pw_lampforge_k15_boxes_all_at_once.main.body.getD i (.Pass ⟨0,0,0,0⟩)
abbrev s_two_to:Stmt:=top 6
abbrev y_e:Stmt:=top 9
abbrev y_z:Stmt:=top 10
abbrev y_f:Stmt:=top 11
abbrev s_spread:Stmt:=top 13
abbrev y_c:Stmt:=top 14
abbrev x_b:Stmt:=top 15
abbrev y_d:Stmt:=top 16
abbrev y_m:Stmt:=top 17
abbrev x_a:Stmt:=top 18
abbrev y_o:Stmt:=top 20
abbrev y_q:Stmt:=top 21
abbrev x_g:Stmt:=top 22
abbrev s_worth:Stmt:=top 24
abbrev y_n:Stmt:=top 25
abbrev y_a:Stmt:=top 26
abbrev y_b:Stmt:=top 27
abbrev y_p:Stmt:=top 29
abbrev s_L_bag:Stmt:=top 31
abbrev s_L_take:Stmt:=top 32
abbrev s_L_pool:Stmt:=top 33
abbrev s_L_same:Stmt:=top 34
abbrev s_L_run:Stmt:=top 35
abbrev s_law:Stmt:=top 36
abbrev s_Ring_init:Stmt:=inClass (top 2) 0
theorem sc_two_to:FnScope ["many", "power", "step"] ["many"] (z_g s_two_to):=⟨rfl,rfl,rfl,by decide +kernel,rfl,by decide +kernel,by decide +kernel⟩
theorem sc_sayings_in:FnScope ["saying"] ["saying"] (z_g y_e):=⟨rfl,rfl,rfl,by decide +kernel,rfl,by decide +kernel,by decide +kernel⟩
theorem sc_width_over:FnScope ["saying", "inner", "word", "both", "fits"] ["saying", "inner"] (z_g y_f):=⟨rfl,rfl,rfl,by decide +kernel,rfl,by decide +kernel,by decide +kernel⟩
theorem sc_spread:FnScope ["plan", "parts", "part", "last"] ["plan"] (z_g s_spread):=⟨rfl,rfl,rfl,by decide +kernel,rfl,by decide +kernel,by decide +kernel⟩
theorem sc_brings_rows:FnScope ["part", "parts"] ["part", "parts"] (z_g y_c):=⟨rfl,rfl,rfl,by decide +kernel,rfl,by decide +kernel,by decide +kernel⟩
theorem sc_rows_of:FnScope ["part", "ahead", "parts", "rows", "row"] ["part", "ahead", "parts"] (z_g x_b):=⟨rfl,rfl,rfl,by decide +kernel,rfl,by decide +kernel,by decide +kernel⟩
theorem sc_renamed:FnScope ["saying", "ahead", "inner"] ["saying", "ahead"] (z_g x_a):=⟨rfl,rfl,rfl,by decide +kernel,rfl,by decide +kernel,by decide +kernel⟩
theorem sc_order_of:FnScope ["rows", "waits", "readers", "missing", "name", "wire", "order", "place"] ["rows"] (z_g y_o):=⟨rfl,rfl,rfl,by decide +kernel,rfl,by decide +kernel,by decide +kernel⟩
theorem sc_waits_of:FnScope ["rows", "names", "row", "waits", "wires"] ["rows"] (z_g y_q):=⟨rfl,rfl,rfl,by decide +kernel,rfl,by decide +kernel,by decide +kernel⟩
theorem sc_worth:FnScope ["saying", "widths", "numbers"] ["saying", "widths", "numbers"] (z_g s_worth):=⟨rfl,rfl,rfl,by decide +kernel,rfl,by decide +kernel,by decide +kernel⟩
theorem sc_measured:FnScope ["saying", "widths", "numbers", "word", "found", "inner", "worths", "width"] ["saying", "widths", "numbers"] (z_g y_n):=⟨rfl,rfl,rfl,by decide +kernel,rfl,by decide +kernel,by decide +kernel⟩
theorem sc_worth_of_one:FnScope ["saying", "width", "a", "word"] ["saying", "width", "a"] (z_g y_a):=⟨rfl,rfl,rfl,by decide +kernel,rfl,by decide +kernel,by decide +kernel⟩
theorem sc_worth_of_two:FnScope ["word", "width", "a", "b"] ["word", "width", "a", "b"] (z_g y_b):=⟨rfl,rfl,rfl,by decide +kernel,rfl,by decide +kernel,by decide +kernel⟩
theorem sc_run_plan:FnScope ["plan", "beats", "flat", "rows", "widths", "sayings", "row", "order", "boxes", "stand", "told", "numbers", "now", "port", "number", "name"] ["plan", "beats"] (z_g y_p):=⟨rfl,rfl,rfl,by decide +kernel,rfl,by decide +kernel,by decide +kernel⟩
theorem sc_L_bag:FnScope ["_law_script", "_law_at", "_law_cell", "_law_mix", "_law_k"] ["_law_script", "_law_at"] (z_g s_L_bag):=⟨rfl,rfl,rfl,by decide +kernel,rfl,by decide +kernel,by decide +kernel⟩
theorem sc_L_take:FnScope ["_law_bag_here", "_law_many", "_law_digit"] ["_law_bag_here", "_law_many"] (z_g s_L_take):=⟨rfl,rfl,rfl,by decide +kernel,rfl,by decide +kernel,by decide +kernel⟩
theorem sc_L_pool:FnScope ["_law_bag_here", "_law_many", "_law_stem", "_law_at", "_law_words", "_law_names", "_law_k", "_law_name"] ["_law_bag_here", "_law_many"] (z_g s_L_pool):=⟨rfl,rfl,rfl,by decide +kernel,rfl,by decide +kernel,by decide +kernel⟩
theorem sc_L_same:FnScope ["_law_found", "_law_due"] ["_law_found", "_law_due"] (z_g s_L_same):=⟨rfl,rfl,rfl,by decide +kernel,rfl,by decide +kernel,by decide +kernel⟩
theorem sc_L_run:FnScope ["_law_sources", "_law_firsts", "_law_outs", "_law_beats", "_law_top", "_law_stand", "_law_some", "_law_given", "_law_numbers", "_law_at", "_law_turned"] ["_law_sources", "_law_firsts", "_law_outs", "_law_beats", "_law_top"] (z_g s_L_run):=⟨rfl,rfl,rfl,by decide +kernel,rfl,by decide +kernel,by decide +kernel⟩
theorem sc_law:FnScope ["_law_script", "_law_bag_here", "_law_names", "_law_width", "_law_ins", "_law_boxes", "_law_firsts", "_law_sources", "_law_rows", "_law_k", "_law_wire", "_law_row", "_law_at", "_law_outs", "_law_doors", "_law_plan", "_law_more", "_law_beats", "_law_due", "_law_handed", "_law_found", "_law_some", "_law_front"] ["_law_script"] (z_g s_law):=⟨rfl,rfl,rfl,by decide +kernel,rfl,by decide +kernel,by decide +kernel⟩
set_option genInjectivity false in
set_option genSizeOfSpec false in
structure Ad where
 a_two_to:Addr
 d_two_to:FuncData
 a_sayings_in:Addr
 d_sayings_in:FuncData
 a_wires_in:Addr
 d_wires_in:FuncData
 a_width_over:Addr
 d_width_over:FuncData
 a_spread:Addr
 d_spread:FuncData
 a_brings_rows:Addr
 d_brings_rows:FuncData
 a_rows_of:Addr
 d_rows_of:FuncData
 a_rows_of_use:Addr
 d_rows_of_use:FuncData
 a_fronts_of:Addr
 d_fronts_of:FuncData
 a_renamed:Addr
 d_renamed:FuncData
 a_order_of:Addr
 d_order_of:FuncData
 a_waits_of:Addr
 d_waits_of:FuncData
 a_ring_in:Addr
 d_ring_in:FuncData
 a_worth:Addr
 d_worth:FuncData
 a_measured:Addr
 d_measured:FuncData
 a_worth_of_one:Addr
 d_worth_of_one:FuncData
 a_worth_of_two:Addr
 d_worth_of_two:FuncData
 a_run_plan:Addr
 d_run_plan:FuncData
 a_L_bag:Addr
 d_L_bag:FuncData
 a_L_take:Addr
 d_L_take:FuncData
 a_L_pool:Addr
 d_L_pool:FuncData
 a_L_same:Addr
 d_L_same:FuncData
 a_L_run:Addr
 d_L_run:FuncData
 a_law:Addr
 d_law:FuncData
 a_FORMS:Addr
 c_ForgeError:Addr
 c_Ring:Addr
structure Tx(w:World)(K:PySem.W.Frag)(mg:Str->Option Value)(A:Ad):Prop where
 abs:mg "abs" = none
 all:mg "all" = none
 bool:mg "bool" = none
 dict:mg "dict" = none
 int:mg "int" = none
 isinstance:mg "isinstance" = none
 len:mg "len" = none
 list:mg "list" = none
 max:mg "max" = none
 min:mg "min" = none
 range:mg "range" = none
 str:mg "str" = none
 tuple:mg "tuple" = none
 zip:mg "zip" = none
 g_MOST_WIDTH:∃ t,mg "MOST_WIDTH" = some (.int 8 t)
 g_FORMS:mg "FORMS" = some (.ref A.a_FORMS)
 D_FORMS:∃ kvs,TopD w K A.a_FORMS kvs/\∀ z∈words,∃ p,kvs.lookup z=some (.ref p)/\∀ H,SqT K H p [.int (formN z),.int (formK z)]
 g_MOST_TABLE_WIDTH:∃ t,mg "MOST_TABLE_WIDTH" = some (.int 4 t)
 F_two_to:Fun K "two_to" "two_to" s_two_to A.a_two_to A.d_two_to
 B_two_to:Binds K A.d_two_to ["many"] []
 M_two_to:mg "two_to" = some (.ref A.a_two_to)
 F_sayings_in:Fun K "sayings_in" "sayings_in" y_e A.a_sayings_in A.d_sayings_in
 B_sayings_in:Binds K A.d_sayings_in ["saying"] []
 M_sayings_in:mg "sayings_in" = some (.ref A.a_sayings_in)
 F_wires_in:Fun K "wires_in" "wires_in" y_z A.a_wires_in A.d_wires_in
 B_wires_in:Binds K A.d_wires_in ["saying"] []
 M_wires_in:mg "wires_in" = some (.ref A.a_wires_in)
 F_width_over:Fun K "width_over" "width_over" y_f A.a_width_over A.d_width_over
 B_width_over:Binds K A.d_width_over ["saying", "inner"] []
 M_width_over:mg "width_over" = some (.ref A.a_width_over)
 F_spread:Fun K "spread" "spread" s_spread A.a_spread A.d_spread
 B_spread:Binds K A.d_spread ["plan"] []
 M_spread:mg "spread" = some (.ref A.a_spread)
 F_brings_rows:Fun K "brings_rows" "brings_rows" y_c A.a_brings_rows A.d_brings_rows
 B_brings_rows:Binds K A.d_brings_rows ["part", "parts"] []
 M_brings_rows:mg "brings_rows" = some (.ref A.a_brings_rows)
 F_rows_of:Fun K "rows_of" "rows_of" x_b A.a_rows_of A.d_rows_of
 B_rows_of:Binds K A.d_rows_of ["part", "ahead", "parts"] []
 M_rows_of:mg "rows_of" = some (.ref A.a_rows_of)
 F_rows_of_use:Fun K "rows_of_use" "rows_of_use" y_d A.a_rows_of_use A.d_rows_of_use
 B_rows_of_use:Binds K A.d_rows_of_use ["row", "ahead", "parts"] []
 M_rows_of_use:mg "rows_of_use" = some (.ref A.a_rows_of_use)
 F_fronts_of:Fun K "fronts_of" "fronts_of" y_m A.a_fronts_of A.d_fronts_of
 B_fronts_of:Binds K A.d_fronts_of ["row", "ahead"] []
 M_fronts_of:mg "fronts_of" = some (.ref A.a_fronts_of)
 F_renamed:Fun K "renamed" "renamed" x_a A.a_renamed A.d_renamed
 B_renamed:Binds K A.d_renamed ["saying", "ahead"] []
 M_renamed:mg "renamed" = some (.ref A.a_renamed)
 F_order_of:Fun K "order_of" "order_of" y_o A.a_order_of A.d_order_of
 B_order_of:Binds K A.d_order_of ["rows"] []
 M_order_of:mg "order_of" = some (.ref A.a_order_of)
 F_waits_of:Fun K "waits_of" "waits_of" y_q A.a_waits_of A.d_waits_of
 B_waits_of:Binds K A.d_waits_of ["rows"] []
 M_waits_of:mg "waits_of" = some (.ref A.a_waits_of)
 F_ring_in:Fun K "ring_in" "ring_in" x_g A.a_ring_in A.d_ring_in
 B_ring_in:Binds K A.d_ring_in ["waits", "missing"] []
 M_ring_in:mg "ring_in" = some (.ref A.a_ring_in)
 F_worth:Fun K "worth" "worth" s_worth A.a_worth A.d_worth
 B_worth:Binds K A.d_worth ["saying", "widths", "numbers"] []
 M_worth:mg "worth" = some (.ref A.a_worth)
 F_measured:Fun K "measured" "measured" y_n A.a_measured A.d_measured
 B_measured:Binds K A.d_measured ["saying", "widths", "numbers"] []
 M_measured:mg "measured" = some (.ref A.a_measured)
 F_worth_of_one:Fun K "worth_of_one" "worth_of_one" y_a A.a_worth_of_one A.d_worth_of_one
 B_worth_of_one:Binds K A.d_worth_of_one ["saying", "width", "a"] []
 M_worth_of_one:mg "worth_of_one" = some (.ref A.a_worth_of_one)
 F_worth_of_two:Fun K "worth_of_two" "worth_of_two" y_b A.a_worth_of_two A.d_worth_of_two
 B_worth_of_two:Binds K A.d_worth_of_two ["word", "width", "a", "b"] []
 M_worth_of_two:mg "worth_of_two" = some (.ref A.a_worth_of_two)
 F_run_plan:Fun K "run_plan" "run_plan" y_p A.a_run_plan A.d_run_plan
 B_run_plan:Binds K A.d_run_plan ["plan", "beats"] []
 M_run_plan:mg "run_plan" = some (.ref A.a_run_plan)
 F_L_bag:Fun K "_law_bag" "_law_bag" s_L_bag A.a_L_bag A.d_L_bag
 B_L_bag:Binds K A.d_L_bag ["_law_script", "_law_at"] []
 M_L_bag:mg "_law_bag" = some (.ref A.a_L_bag)
 F_L_take:Fun K "_law_take" "_law_take" s_L_take A.a_L_take A.d_L_take
 B_L_take:Binds K A.d_L_take ["_law_bag_here", "_law_many"] []
 M_L_take:mg "_law_take" = some (.ref A.a_L_take)
 F_L_pool:Fun K "_law_pool" "_law_pool" s_L_pool A.a_L_pool A.d_L_pool
 B_L_pool:Binds K A.d_L_pool ["_law_bag_here", "_law_many"] []
 M_L_pool:mg "_law_pool" = some (.ref A.a_L_pool)
 F_L_same:Fun K "_law_same" "_law_same" s_L_same A.a_L_same A.d_L_same
 B_L_same:Binds K A.d_L_same ["_law_found", "_law_due"] []
 M_L_same:mg "_law_same" = some (.ref A.a_L_same)
 F_L_run:Fun K "_law_run" "_law_run" s_L_run A.a_L_run A.d_L_run
 B_L_run:Binds K A.d_L_run ["_law_sources", "_law_firsts", "_law_outs", "_law_beats", "_law_top"] []
 M_L_run:mg "_law_run" = some (.ref A.a_L_run)
 F_law:Fun K "law" "law" s_law A.a_law A.d_law
 B_law:Binds K A.d_law ["_law_script"] []
 M_law:mg "law" = some (.ref A.a_law)
 M_ForgeError:mg "ForgeError" = some (.ref A.c_ForgeError)
 M_Ring:mg "Ring" = some (.ref A.c_Ring)
section
variable {P:Program} {w:World} {K:PySem.W.Frag} {mg:Str->Option Value} {base:Heap} {A:Ad}
seal L2.PE L2.PA L2.PT L2.PS L2.PSs
theorem ok_two_to(T:Tx w K mg A):FnOk P w K mg base CX0 1 A.a_two_to A.d_two_to ["many"] sp_two_to:=by
 refine T.F_two_to.ok sc_two_to (fun vs H Q E h=>?_) (fun cdv A' outer s H vs Q E hr h=>?_)
 ·obtain ⟨m,rfl,m0,m1,q⟩:=h
  rfl
 obtain ⟨m,rfl,m0,m1,q⟩:=h
 refine ⟨_,(z_b (z_p (i:=1) sc_two_to.nd rfl (Or.inl rfl) z_f)
  (z_b (ps_for PassesOwn.never rfl (y_w rfl T.range (z_a (pv 0) z_e)) (y_g (i:=2) sc_two_to.nd rfl (Or.inl rfl))
    (z_h (z_p (i:=1) sc_two_to.nd rfl (Or.inl rfl) (z_t op_mul (pv 1) z_f))))
  (z_h (z_v (pv 1))))),?_⟩
 obtain ⟨m,rfl⟩:=Int.eq_ofNat_of_zero_le m0
 refine ⟨_,rfl,_,rfl,by lia,by lia,for_range (lo:=0) (fun i σ H'=>∃ x,σ=[some (.int m),some (.int (2^i)),x]/\H=H') ⟨_,rfl,rfl⟩ ?_ ?_⟩
 ·rintro i σ H' hi ⟨x,rfl,rfl⟩
  refine ⟨_,rfl,_,_,rfl,rfl,.inr ⟨by decide,by decide⟩,?_⟩
  exact ⟨some (.int (0+(i:Int))),(show [some (V.int m),some (.int ((2:Int)^i*2)),some (.int (0+(i:Int)))]=_ by rw [<-Int.pow_succ]),rfl⟩
 ·rintro σ H' ⟨x,rfl,rfl⟩
  exact ⟨_,rfl,q⟩
theorem ok_sayings_in(T:Tx w K mg A):FnOk P w K mg base CX0 1 A.a_sayings_in A.d_sayings_in ["saying"] x_h:=by
 refine T.F_sayings_in.ok sc_sayings_in (fun vs H Q E h=>?_) (fun cdv A' outer s H vs Q E hr h=>?_)
 ·obtain ⟨z,hd,subs,v,rfl,hz,hk,hl2,hD,q⟩:=h
  rfl
 obtain ⟨z,hd,subs,v,rfl,hz,hk,hl2,hD,q⟩:=h
 obtain ⟨kvs,D_FORMS,hkvs⟩:=T.D_FORMS
 refine ⟨_,(z_h (z_v (pe_slice sl_tupE (pv 0) (po_some (z_m z_w (z_m (ix_top D_FORMS) (pe_glob (v:=.ref A.a_FORMS) rfl T.g_FORMS rfl) (z_m z_w (pv 0) z_f (fun _ _=>rfl)) (fun _ _=>rfl)) z_f (fun _ _=>rfl))) po_none))),?_⟩
 obtain ⟨p,xs,rfl,hp,hxs⟩:=hD.tupI
 obtain ⟨x0,r0,rfl,h0,hr0⟩:=hxs.consI
 have e0:x0 = .str z:=by unfold Dat at h0;exact h0
 subst e0
 obtain ⟨pf,hlk,hpf⟩:=hkvs z hz
 have hlen:=hr0.length
 rw [List.length_append] at hlen
 refine ⟨_,rfl,_,rfl,p,_,_,_,rfl,rfl,SqT.of hp,(show atI _ ((0:Nat):Int)=_ from z_u rfl),_,_,rfl,rfl,hlk,pf,_,_,_,rfl,rfl,hpf H,rfl,_,rfl,p,_,rfl,hp,fun p2 H2 s2 f2=>?_⟩
 have hcut:cutV (V.str z::r0) (some ((formK z:Nat):Int)) none=r0.drop hd.length:=by
  rw [cut_from (by rw [List.length_cons,hk];lia),hk]
  rfl
 rw [hcut] at f2
 refine q p2 _ H2 s2 f2 ?_
 have:=(hr0.same s2).drop hd.length
 rw [List.drop_left] at this
 exact this
theorem ok_width_over(T:Tx w K mg A)(G_two_to:FnOk P w K mg base CX0 1 A.a_two_to A.d_two_to ["many"] sp_two_to):FnOk P w K mg base CX0 2 A.a_width_over A.d_width_over ["saying", "inner"] sp_width_over:=by
 refine T.F_width_over.ok sc_width_over (fun vs H Q E h=>?_) (fun cdv A' outer s H vs Q E hr h=>?_)
 ·obtain ⟨z,hd,subs,v,pi,ws,us,w,val,rfl,hD,hpi,ev,hws,q⟩:=h
  rfl
 obtain ⟨z,hd,subs,v,pi,ws,us,w,val,rfl,hD,hpi,ev,hws,q⟩:=h
 obtain ⟨t_MOST_WIDTH,g_MOST_WIDTH⟩:=T.g_MOST_WIDTH
 obtain ⟨t_MOST_TABLE_WIDTH,g_MOST_TABLE_WIDTH⟩:=T.g_MOST_TABLE_WIDTH
 refine ⟨_,(z_b (z_p (i:=2) sc_width_over.nd rfl (Or.inl rfl) (z_m z_w (pv 0) z_f (fun _ _=>rfl)))
  (z_b (y_x (z_q op_in_seq (pv 2) (y_v (pa_consts rfl)) rfl) (z_h (z_v (z_m z_o (pv 1) z_f (fun _ _=>rfl)))) z_y)
  (z_b (y_x (z_q x_e (pv 2) z_z (nomark _)) (z_b (z_p (i:=3) sc_width_over.nd rfl (Or.inl rfl) (z_t y_u (z_m z_o (pv 1) z_f (fun _ _=>rfl)) (z_m z_o (pv 1) z_f (fun _ _=>rfl))))
  (z_h (z_v (pe_ifExp (z_q op_le (pv 3) (pe_glob (v:=.int 8) rfl g_MOST_WIDTH ⟨_,rfl⟩) (nomark _)) (pv 3) pe_non)))) z_y)
  (z_b (y_x (z_q x_e (pv 2) z_z (nomark _)) (z_h (z_v (pe_ifExp (z_q op_le (z_t y_u (z_m z_w (pv 0) z_f (fun _ _=>rfl)) (z_m z_w (pv 0) z_f (fun _ _=>rfl))) (z_m z_o (pv 1) z_f (fun _ _=>rfl)) (nomark _)) (z_m z_w (pv 0) z_f (fun _ _=>rfl)) pe_non))) z_y)
  (z_b (y_x (z_q x_e (pv 2) z_z (nomark _)) (z_b (z_p (i:=4) sc_width_over.nd rfl (Or.inl rfl) (pe_and (pe_cmpR op_le (z_m z_o (pv 1) z_f (fun _ _=>rfl)) (pe_glob (v:=.int 4) rfl g_MOST_TABLE_WIDTH ⟨_,rfl⟩) (nomark _)) (pe_one (pe_cmpR x_e (z_x y_y rfl T.len PySem.boot_len (z_a (z_m z_w (pv 0) z_f (fun _ _=>rfl)) z_e)) (z_l G_two_to (hr.mono (by first | decide | lia)) rfl T.M_two_to T.F_two_to.kp T.B_two_to .nil pass0 (z_a (z_m z_o (pv 1) z_f (fun _ _=>rfl)) z_e)) (nomark _)))))
  (z_h (z_v (pe_ifExp (pt_truth (pv 4) (fun _=>rfl)) (z_m z_w (pv 0) z_f (fun _ _=>rfl)) pe_non)))) z_y)
  (z_b (y_x (z_q x_e (pv 2) z_z (nomark _)) (z_h (z_v (pe_ifExp (PW.pt (pw_and (z_q x_e (z_m z_o (pv 1) z_f (fun _ _=>rfl)) z_f (nomark _)) (pw_and1 (z_q x_e (z_m z_o (pv 1) z_f (fun _ _=>rfl)) (z_m z_o (pv 1) z_f (fun _ _=>rfl)) (nomark _))))) (z_m z_o (pv 1) z_f (fun _ _=>rfl)) pe_non))) z_y)
  (z_b (y_x (z_q op_ne (z_m z_o (pv 1) z_f (fun _ _=>rfl)) (z_m z_o (pv 1) z_f (fun _ _=>rfl)) (nomark _)) (z_h (z_v pe_non)) z_y)
  (z_h (z_v (pe_ifExp (z_q op_in_seq (pv 2) (y_v (z_a z_z (z_a z_z z_e))) rfl) z_f (z_m z_o (pv 1) z_f (fun _ _=>rfl)))))))))))),?_⟩
 obtain ⟨p,xs,rfl,hp,hxs⟩:=hD.tupI
 obtain ⟨x0,r0,rfl,h0,hr0⟩:=hxs.consI
 have e0:x0 = .str z:=by unfold Dat at h0;exact h0
 subst e0
 refine ⟨_,rfl,p,_,_,_,rfl,rfl,SqT.of hp,(show atI _ ((0:Nat):Int)=_ from z_u rfl),?_⟩
 refine ⟨_,rfl,(by show 3<=sizeLine;decide),fun p1 hp1=>?_⟩
 have t1:=z_d hp1 (.tup [.str "not",.str "up",.str "down"])
 have hp1':=t1 _ _ hp
 have hpi1:=t1 _ _ hpi
 refine ⟨p1,_,rfl,.inr (SqT.of z_c),rfl,rfl,_,rfl,?_⟩
 cases ev with
 | not=>exact y_k (by decide) ⟨_,rfl,pi,_,_,_,rfl,rfl,SqL.of hpi1,rfl,q _ t1⟩
 | up=>exact y_k (by decide) ⟨_,rfl,pi,_,_,_,rfl,rfl,SqL.of hpi1,rfl,q _ t1⟩
 | down=>exact y_k (by decide) ⟨_,rfl,pi,_,_,_,rfl,rfl,SqL.of hpi1,rfl,q _ t1⟩
 | join a b x y h =>
  refine z_i (by decide) ⟨_,rfl,rfl,_,rfl,?_⟩
  refine y_k (by decide) ?_
  refine ⟨_,rfl,pi,_,_,_,rfl,rfl,SqL.of hpi1,rfl,_,rfl,pi,_,_,_,rfl,rfl,SqL.of hpi1,rfl,_,_,rfl,rfl,?_⟩
  refine ⟨_,rfl,_,_,rfl,rfl,_,rfl,?_⟩
  exact y_k (decide_eq_true h) ⟨_,rfl,q _ t1⟩
 | cut f w' a x h0 h1 h =>
  obtain ⟨x1,r1,rfl,hx1,hr1⟩:=hr0.consI
  obtain ⟨x2,r2,rfl,hx2,hr2⟩:=hr1.consI
  have e1:=hx1.intI
  have e2:=hx2.intI
  subst e1 e2
  refine z_i (by decide) ⟨_,rfl,rfl,_,rfl,?_⟩
  refine z_i (by decide) ⟨_,rfl,rfl,_,rfl,?_⟩
  refine y_k (by decide) ?_
  refine ⟨_,rfl,p,_,_,_,rfl,rfl,SqT.of hp1',(show atI _ ((1:Nat):Int)=_ from z_u rfl),_,rfl,p,_,_,_,rfl,rfl,SqT.of hp1',(show atI _ ((2:Nat):Int)=_ from z_u rfl),_,_,rfl,rfl,_,rfl,pi,_,_,_,rfl,rfl,SqL.of hpi1,rfl,_,_,rfl,rfl,_,rfl,?_⟩
  exact y_k (decide_eq_true h) ⟨_,rfl,p,_,_,_,rfl,rfl,SqT.of hp1',(show atI _ ((2:Nat):Int)=_ from z_u rfl),q _ t1⟩
 | table w' a x ns h4 hl x0 x1 =>
  obtain ⟨y1,r1,rfl,hy1,hr1⟩:=hr0.consI
  obtain ⟨y2,r2,rfl,hy2,hr2⟩:=hr1.consI
  obtain ⟨pt,ts,rfl,hpt,hts⟩:=hy2.tupI
  have ets:ts=ns.map V.int:=dats_ints hts
  have e1:=hy1.intI
  subst ets e1
  have ha:=hws a List.mem_cons_self
  refine z_i (by decide) ⟨_,rfl,rfl,_,rfl,?_⟩
  refine z_i (by decide) ⟨_,rfl,rfl,_,rfl,?_⟩
  refine z_i (by decide) ⟨_,rfl,rfl,_,rfl,?_⟩
  refine y_k (by decide) ?_
  refine ⟨_,rfl,pi,_,_,_,rfl,rfl,SqL.of hpi1,rfl,_,_,rfl,rfl,_,rfl,?_⟩
  refine y_k (decide_eq_true h4) ⟨_,rfl,p,_,_,_,rfl,rfl,SqT.of hp1',(show atI _ ((2:Nat):Int)=_ from z_u rfl),_,_,rfl,.inr ⟨_,SqT.of (t1 _ _ hpt),rfl⟩,_,rfl,pi,_,_,_,rfl,rfl,SqL.of hpi1,rfl,a,rfl,by lia,by lia,rfl,?_⟩
  refine ⟨_,rfl,_,rfl,?_⟩
  exact y_k (decide_eq_true (by rw [List.length_map,hl])) ⟨_,rfl,p,_,_,_,rfl,rfl,SqT.of hp1',(show atI _ ((1:Nat):Int)=_ from z_u rfl),q _ t1⟩
 | choice a c x y =>
  refine z_i (by decide) ⟨_,rfl,rfl,_,rfl,?_⟩
  refine z_i (by decide) ⟨_,rfl,rfl,_,rfl,?_⟩
  refine z_i (by decide) ⟨_,rfl,rfl,_,rfl,?_⟩
  refine z_i (by decide) ⟨_,rfl,rfl,_,rfl,?_⟩
  refine y_k (by decide) ?_
  refine ⟨_,rfl,pi,_,_,_,rfl,rfl,SqL.of hpi1,rfl,rfl,_,rfl,?_⟩
  refine y_k (by decide) ⟨_,rfl,pi,_,_,_,rfl,rfl,SqL.of hpi1,rfl,_,rfl,pi,_,_,_,rfl,rfl,SqL.of hpi1,rfl,rfl,_,rfl,?_⟩
  exact y_k (by simp) ⟨_,rfl,pi,_,_,_,rfl,rfl,SqL.of hpi1,rfl,q _ t1⟩
 | and =>
  refine z_i (by decide) ⟨_,rfl,rfl,_,rfl,?_⟩
  refine z_i (by decide) ⟨_,rfl,rfl,_,rfl,?_⟩
  refine z_i (by decide) ⟨_,rfl,rfl,_,rfl,?_⟩
  refine z_i (by decide) ⟨_,rfl,rfl,_,rfl,?_⟩
  refine z_i (by decide) ?_
  refine ⟨_,rfl,pi,_,_,_,rfl,rfl,SqL.of hpi1,rfl,_,rfl,pi,_,_,_,rfl,rfl,SqL.of hpi1,rfl,rfl,_,rfl,?_⟩
  refine z_i (by simp) ?_
  refine ⟨_,rfl,(by show 2<=sizeLine;decide),fun p2 hp2=>?_⟩
  have t2:=z_d hp2 (.tup [.str "under",.str "same"])
  refine ⟨p2,_,rfl,.inr (SqT.of z_c),rfl,rfl,_,rfl,?_⟩
  exact z_i (by decide) ⟨_,rfl,pi,_,_,_,rfl,rfl,SqL.of (t2 _ _ hpi1),rfl,q _ (t1.trans t2)⟩
 | or =>
  refine z_i (by decide) ⟨_,rfl,rfl,_,rfl,?_⟩
  refine z_i (by decide) ⟨_,rfl,rfl,_,rfl,?_⟩
  refine z_i (by decide) ⟨_,rfl,rfl,_,rfl,?_⟩
  refine z_i (by decide) ⟨_,rfl,rfl,_,rfl,?_⟩
  refine z_i (by decide) ?_
  refine ⟨_,rfl,pi,_,_,_,rfl,rfl,SqL.of hpi1,rfl,_,rfl,pi,_,_,_,rfl,rfl,SqL.of hpi1,rfl,rfl,_,rfl,?_⟩
  refine z_i (by simp) ?_
  refine ⟨_,rfl,(by show 2<=sizeLine;decide),fun p2 hp2=>?_⟩
  have t2:=z_d hp2 (.tup [.str "under",.str "same"])
  refine ⟨p2,_,rfl,.inr (SqT.of z_c),rfl,rfl,_,rfl,?_⟩
  exact z_i (by decide) ⟨_,rfl,pi,_,_,_,rfl,rfl,SqL.of (t2 _ _ hpi1),rfl,q _ (t1.trans t2)⟩
 | odd =>
  refine z_i (by decide) ⟨_,rfl,rfl,_,rfl,?_⟩
  refine z_i (by decide) ⟨_,rfl,rfl,_,rfl,?_⟩
  refine z_i (by decide) ⟨_,rfl,rfl,_,rfl,?_⟩
  refine z_i (by decide) ⟨_,rfl,rfl,_,rfl,?_⟩
  refine z_i (by decide) ?_
  refine ⟨_,rfl,pi,_,_,_,rfl,rfl,SqL.of hpi1,rfl,_,rfl,pi,_,_,_,rfl,rfl,SqL.of hpi1,rfl,rfl,_,rfl,?_⟩
  refine z_i (by simp) ?_
  refine ⟨_,rfl,(by show 2<=sizeLine;decide),fun p2 hp2=>?_⟩
  have t2:=z_d hp2 (.tup [.str "under",.str "same"])
  refine ⟨p2,_,rfl,.inr (SqT.of z_c),rfl,rfl,_,rfl,?_⟩
  exact z_i (by decide) ⟨_,rfl,pi,_,_,_,rfl,rfl,SqL.of (t2 _ _ hpi1),rfl,q _ (t1.trans t2)⟩
 | sum =>
  refine z_i (by decide) ⟨_,rfl,rfl,_,rfl,?_⟩
  refine z_i (by decide) ⟨_,rfl,rfl,_,rfl,?_⟩
  refine z_i (by decide) ⟨_,rfl,rfl,_,rfl,?_⟩
  refine z_i (by decide) ⟨_,rfl,rfl,_,rfl,?_⟩
  refine z_i (by decide) ?_
  refine ⟨_,rfl,pi,_,_,_,rfl,rfl,SqL.of hpi1,rfl,_,rfl,pi,_,_,_,rfl,rfl,SqL.of hpi1,rfl,rfl,_,rfl,?_⟩
  refine z_i (by simp) ?_
  refine ⟨_,rfl,(by show 2<=sizeLine;decide),fun p2 hp2=>?_⟩
  have t2:=z_d hp2 (.tup [.str "under",.str "same"])
  refine ⟨p2,_,rfl,.inr (SqT.of z_c),rfl,rfl,_,rfl,?_⟩
  exact z_i (by decide) ⟨_,rfl,pi,_,_,_,rfl,rfl,SqL.of (t2 _ _ hpi1),rfl,q _ (t1.trans t2)⟩
 | less =>
  refine z_i (by decide) ⟨_,rfl,rfl,_,rfl,?_⟩
  refine z_i (by decide) ⟨_,rfl,rfl,_,rfl,?_⟩
  refine z_i (by decide) ⟨_,rfl,rfl,_,rfl,?_⟩
  refine z_i (by decide) ⟨_,rfl,rfl,_,rfl,?_⟩
  refine z_i (by decide) ?_
  refine ⟨_,rfl,pi,_,_,_,rfl,rfl,SqL.of hpi1,rfl,_,rfl,pi,_,_,_,rfl,rfl,SqL.of hpi1,rfl,rfl,_,rfl,?_⟩
  refine z_i (by simp) ?_
  refine ⟨_,rfl,(by show 2<=sizeLine;decide),fun p2 hp2=>?_⟩
  have t2:=z_d hp2 (.tup [.str "under",.str "same"])
  refine ⟨p2,_,rfl,.inr (SqT.of z_c),rfl,rfl,_,rfl,?_⟩
  exact z_i (by decide) ⟨_,rfl,pi,_,_,_,rfl,rfl,SqL.of (t2 _ _ hpi1),rfl,q _ (t1.trans t2)⟩
 | under =>
  refine z_i (by decide) ⟨_,rfl,rfl,_,rfl,?_⟩
  refine z_i (by decide) ⟨_,rfl,rfl,_,rfl,?_⟩
  refine z_i (by decide) ⟨_,rfl,rfl,_,rfl,?_⟩
  refine z_i (by decide) ⟨_,rfl,rfl,_,rfl,?_⟩
  refine z_i (by decide) ?_
  refine ⟨_,rfl,pi,_,_,_,rfl,rfl,SqL.of hpi1,rfl,_,rfl,pi,_,_,_,rfl,rfl,SqL.of hpi1,rfl,rfl,_,rfl,?_⟩
  refine z_i (by simp) ?_
  refine ⟨_,rfl,(by show 2<=sizeLine;decide),fun p2 hp2=>?_⟩
  have t2:=z_d hp2 (.tup [.str "under",.str "same"])
  refine ⟨p2,_,rfl,.inr (SqT.of z_c),rfl,rfl,_,rfl,?_⟩
  exact y_k (by decide) (q _ (t1.trans t2))
 | same =>
  refine z_i (by decide) ⟨_,rfl,rfl,_,rfl,?_⟩
  refine z_i (by decide) ⟨_,rfl,rfl,_,rfl,?_⟩
  refine z_i (by decide) ⟨_,rfl,rfl,_,rfl,?_⟩
  refine z_i (by decide) ⟨_,rfl,rfl,_,rfl,?_⟩
  refine z_i (by decide) ?_
  refine ⟨_,rfl,pi,_,_,_,rfl,rfl,SqL.of hpi1,rfl,_,rfl,pi,_,_,_,rfl,rfl,SqL.of hpi1,rfl,rfl,_,rfl,?_⟩
  refine z_i (by simp) ?_
  refine ⟨_,rfl,(by show 2<=sizeLine;decide),fun p2 hp2=>?_⟩
  have t2:=z_d hp2 (.tup [.str "under",.str "same"])
  refine ⟨p2,_,rfl,.inr (SqT.of z_c),rfl,rfl,_,rfl,?_⟩
  exact y_k (by decide) (q _ (t1.trans t2))
theorem ok_brings_rows(T:Tx w K mg A):FnOk P w K mg base CX0 1 A.a_brings_rows A.d_brings_rows ["part", "parts"] sp_brings:=by
 refine T.F_brings_rows.ok sc_brings_rows (fun vs H Q E h=>?_) (fun cdv A' outer s H vs Q E hr h=>?_)
 ·obtain ⟨P,pa,d,rfl,ok,hD,q⟩:=h
  rfl
 obtain ⟨P,pa,d,rfl,ok,hD,q⟩:=h
 refine ⟨_,(z_b (y_x (z_q op_gt (z_x y_y rfl T.len PySem.boot_len (z_a (z_m z_w (pv 0) z_f (fun _ _=>rfl)) z_e)) z_f (nomark _)) (z_h (z_v pe_bl)) z_y)
  (z_h x_f)),?_⟩
 obtain ⟨r,pd,po,pr,ds,os,rs,er,h1,h2,h3,h4,d1,d2,d3⟩:=Bx.part_at hD
 cases er
 have hl:=d1.length
 unfold Bx.doors at hl
 rw [List.length_map,List.length_range] at hl
 have:=ok.hi
 refine ⟨_,rfl,pa,_,_,_,rfl,rfl,SqT.of h1,rfl,_,_,rfl,.inr ⟨_,SqT.of h2,rfl⟩,_,_,rfl,rfl,_,rfl,?_⟩
 exact y_k (decide_eq_true (by lia)) q
theorem ok_renamed(T:Tx w K mg A)(G_sayings_in:FnOk P w K mg base CX0 1 A.a_sayings_in A.d_sayings_in ["saying"] x_h)(n:Nat)(G_renamed:FnOk P w K mg base CX0 (n+2) A.a_renamed A.d_renamed ["saying", "ahead"] (sp_ren n)):FnOk P w K mg base CX0 (n+3) A.a_renamed A.d_renamed ["saying", "ahead"] (sp_ren (n+1)):=by
 refine T.F_renamed.ok sc_renamed (fun vs H Q E h=>?_) (fun cdv A' outer s H vs Q E hr h=>?_)
 ·obtain ⟨d,d',v,a,rfl,hD,hR,q⟩:=h
  rfl
 obtain ⟨d,d',v,a,rfl,hD,hR,q⟩:=h
 refine ⟨_,(z_b (y_x (z_q x_e (z_m z_w (pv 0) z_f (fun _ _=>rfl)) z_z (nomark _)) (z_h (z_v (y_v (z_a z_z (z_a (z_t op_add_str (pv 1) (z_m z_w (pv 0) z_f (fun _ _=>rfl))) z_e))))) z_y)
  (z_b (z_p (i:=2) sc_renamed.nd rfl (Or.inl rfl) (z_l G_sayings_in (hr.mono (by first | decide | lia)) rfl T.M_sayings_in T.F_sayings_in.kp T.B_sayings_in .nil pass0 (z_a (pv 0) z_e)))
  (z_h (z_v (z_t op_catE (pe_slice sl_tupE (pv 0) po_none (po_some (z_t op_sub (z_x y_y rfl T.len PySem.boot_len (z_a (pv 0) z_e)) (z_x y_y rfl T.len PySem.boot_len (z_a (pv 2) z_e))))) (y_i call_tuple_of rfl T.tuple PyProof.Rows.boot_tuple (z_a (pe_comp [1] (fun _ _ h=>h) rfl (pi_tup (pv 2)) (fun _ _ _ _=>y_s) (fun _ _ _ _=>(z_l G_renamed (hr.mono (by first | decide | lia)) rfl T.M_renamed T.F_renamed.kp T.B_renamed .nil pass0 (z_a (pv 0) (z_a (pv 1) z_e)))) rfl (show ∀ j∈([1]:List Nat),j<3 by decide) (show (["piece", "ahead"]:List Str).Nodup by decide +kernel)) z_e))))))),?_⟩
 rcases hR with ⟨x,rfl,rfl,hl⟩ | ⟨z,hd,subs,subs',hz,hw,hk,hl2,hs3,rfl,rfl,hp⟩
 ·obtain ⟨p,xs,rfl,hp,hxs⟩:=hD.tupI
  obtain ⟨x0,r0,rfl,h0,hr0⟩:=hxs.consI
  obtain ⟨x1,r1,rfl,h1,hr1⟩:=hr0.consI
  have f0:x0 = .str "wire" := by unfold Dat at h0;exact h0
  have f1:x1 = .str x:=by unfold Dat at h1;exact h1
  subst f0 f1
  refine ⟨_,rfl,p,_,_,_,rfl,rfl,SqT.of hp,(show atI _ ((0:Nat):Int)=_ from z_u rfl),rfl,_,rfl,?_⟩
  refine y_k (by decide) ?_
  refine ⟨_,rfl,_,rfl,p,_,_,_,rfl,rfl,SqT.of hp,(show atI _ ((1:Nat):Int)=_ from z_u rfl),_,_,rfl,rfl,small (by rw [<-Str.length_append];exact hl),(by show 2<=sizeLine;decide),fun t ht=>?_⟩
  exact q _ _ (z_d ht _) (Dat.tup z_c (.cons (Dat.str _) (.cons (Dat.str _) .nil)))
 ·have hD0:=hD
  obtain ⟨p,xs,rfl,hpz,hxs⟩:=hD.tupI
  obtain ⟨x0,r0,rfl,h0,hr0⟩:=hxs.consI
  have e0:x0 = .str z:=by unfold Dat at h0;exact h0
  subst e0
  have hlen:=hr0.length
  rw [List.length_append] at hlen
  refine ⟨_,rfl,p,_,_,_,rfl,rfl,SqT.of hpz,(show atI _ ((0:Nat):Int)=_ from z_u rfl),rfl,_,rfl,?_⟩
  refine z_i (decide_eq_false fun h=>hw (by injection h)) ?_
  refine ⟨_,rfl,z,hd,subs,_,rfl,hz,hk,hl2,hD0,fun pt ys H1 s1 hpt hys=>?_⟩
  have hyl:=hys.length
  have hcut:cutV (V.str z::r0) none (some ((((V.str z::r0).length:Nat):Int)-((ys.length:Nat):Int)))=V.str z::r0.take hd.length:=by
   rw [show ((((V.str z::r0).length:Nat):Int)-((ys.length:Nat):Int))=((hd.length+1:Nat):Int) by rw [List.length_cons];lia,cut_to (by rw [List.length_cons];lia)]
   rfl
  refine ⟨_,rfl,_,rfl,_,_,rfl,.inr ⟨_,SqT.of (s1 _ _ hpz),rfl⟩,_,rfl,_,_,rfl,.inr ⟨_,SqT.of hpt,rfl⟩,_,_,rfl,rfl,?_⟩
  refine ⟨_,rfl,p,_,rfl,s1 _ _ hpz,fun pc H2 s2 f2=>?_⟩
  rw [hcut] at f2
  have s12:=s1.trans s2
  refine ⟨_,rfl,pt,rfl,⟨_,SqT.of (s2 _ _ hpt)⟩,comp_tup (xs:=ys) (fun i zs H'=>Same H2 H'/\zs.length=i/\Dats H' (subs'.take i) zs) ⟨Same.refl _,rfl,.nil⟩ ?_ ?_ ?_ ?_⟩
  ·rintro i zs H' _ ⟨s',_⟩
   exact SqT.of (s' _ _ (s2 _ _ hpt))
  ·rintro i zs H' hi ⟨_,hzl,_⟩
   exact y_j (by lia)
  ·rintro i y zs H' hy ⟨s',hzl,hzd⟩
   obtain ⟨sd,hsd,hyd⟩:=hys.get hy
   obtain ⟨sd',hsd',hRn⟩:=pairedGet hp hsd
   unfold tYes
   refine iteT ⟨_,rfl,_,rfl,sd,sd',y,a,rfl,hyd.same (s2.trans s'),hRn,fun v' H3 s3 hv'=>?_⟩
   refine ⟨s'.trans s3,by rw [List.length_append,hzl];rfl,?_⟩
   rw [x_i hsd']
   exact (hzd.same s3).append (.cons hv' .nil)
  rintro zs H3 ⟨s3,hzl,hzd⟩ pl hpl
  rw [<-hyl,Paired.length hp,List.take_length] at hzd
  have s4:=z_d hpl (.lst zs)
  refine ⟨pl,_,rfl,.inl ⟨SqL.of z_c,fun pu hpu=>?_⟩⟩
  have s5:=z_d hpu (.tup zs)
  have s35:=s3.trans (s4.trans s5)
  refine ⟨pc,pu,_,_,rfl,rfl,s35 _ _ f2,z_c,small (by rw [List.length_cons,List.length_take];lia),fun pz H6 s6 f6=>?_⟩
  refine q _ _ (s12.trans (s35.trans s6)) (Dat.tup f6 (.cons (Dat.str _) ?_))
  have e1:Dats H hd (r0.take hd.length):=by
   have:=hr0.take hd.length
   rw [List.take_left] at this
   exact this
  exact (e1.same (s12.trans (s35.trans s6))).append (hzd.same (s4.trans (s5.trans s6)))
theorem ok_rows_of(T:Tx w K mg A)(G_rows_of_use:FnOk P w K mg base CX0 1 A.a_rows_of_use A.d_rows_of_use ["row", "ahead", "parts"] nv_any)(G_renamed:FnOk P w K mg base CX0 9 A.a_renamed A.d_renamed ["saying", "ahead"] (sp_ren 6)):FnOk P w K mg base CX0 10 A.a_rows_of A.d_rows_of ["part", "ahead", "parts"] sp_rowsof:=by
 refine T.F_rows_of.ok sc_rows_of (fun vs H Q E h=>?_) (fun cdv A' outer s H vs Q E hr h=>?_)
 ·obtain ⟨P,pa,d,rfl,ok,hD,q⟩:=h
  rfl
 obtain ⟨P,pa,d,rfl,ok,hD,q⟩:=h
 have hu:=hu_of hr
 refine ⟨_,(z_b (z_p (i:=3) sc_rows_of.nd rfl (Or.inl rfl) (pe_lst z_e))
  (z_b (ps_for PassesOwn.never rfl (pi_tup (z_m z_w (pv 0) z_f (fun _ _=>rfl))) (y_g (i:=4) sc_rows_of.nd rfl (Or.inl rfl))
    (z_h (y_x (z_q op_in_seq (z_m z_w (pv 4) z_f (fun _ _=>rfl)) (y_v (z_a z_z (z_a z_z z_e))) rfl) (z_h (ps_expr (pe_bm PySem.F.plainAttrs_list PySem.F.slot_list_append PySem.F.type_list_append mt_append (pv 3) (z_a (z_t op_catE (z_t op_catE (y_v (z_a (z_m z_w (pv 4) z_f (fun _ _=>rfl)) (z_a (z_t op_add_str (pv 1) (z_m z_w (pv 4) z_f (fun _ _=>rfl))) z_e))) (pe_slice sl_tupE (pv 4) (po_some z_f) (po_some (pe_un un_neg z_f)))) (y_v (z_a (z_l G_renamed (hr.mono (by first | decide | lia)) rfl T.M_renamed T.F_renamed.kp T.B_renamed .nil pass0 (z_a (z_m z_w (pv 4) (pe_un un_neg z_f) (fun _ _=>rfl)) (z_a (pv 1) z_e))) z_e))) z_e)))) (z_h (y_x (pt_cmp (pc_din hu (z_m z_w (pv 4) (pe_un un_neg z_f) (fun _ _=>rfl)) (pv 2))) (z_h x_f) z_y)))))
  (z_h (z_v (pv 3))))),?_⟩
 obtain ⟨r,pd,po,pr,ds,os,rs,er,h1,h2,h3,h4,d1,d2,d3⟩:=Bx.part_at hD
 cases er
 have b8:=ok.hb
 have hrl:=d3.length
 rw [List.length_map,ok.rl] at hrl
 refine ⟨(by show 0<=sizeLine;decide),fun p hp=>?_⟩
 have s1:=z_d hp (.lst [])
 refine ⟨_,rfl,pa,_,_,_,rfl,rfl,SqT.of (s1 _ _ h1),rfl,pr,rfl,⟨_,SqT.of (s1 _ _ h4)⟩,for_tup (xs:=rs) (fun i σ H'=>∃ (x:Option V) (zs:List V),σ=[some (.ref pa),some (.str ""),some (.ref d),some (.ref p),x]/\Same H H'/\H' p=some (.lst zs)/\zs.length=i/\Dats H' ((P.ord.map P.row).take i) zs) ⟨_,[],rfl,s1,z_c,rfl,.nil⟩ ?_ ?_ ?_⟩
 ·rintro i σ H' _ ⟨_,_,rfl,s',_⟩
  exact SqT.of (s' _ _ h4)
 ·rintro i v σ H' hv ⟨x,zs,rfl,s',fp,hzl,hzd⟩
  obtain ⟨dr,hdr,hvd⟩:=d3.get hv
  have hdr0:=hdr
  rw [List.getElem?_map] at hdr
  obtain ⟨k,hk,rfl⟩:=Option.map_eq_some_iff.mp hdr
  have hkB:=ok.ro k (List.mem_of_getElem? hk)
  have hi:i<rs.length:=(List.getElem?_eq_some_iff.mp hv).1
  obtain ⟨rr,sv,rfl,hr,hs⟩:=Bx.row_at (hvd.same s')
  refine ⟨_,rfl,rr,_,_,_,rfl,rfl,SqT.of hr,rfl,(by show 2<=sizeLine;decide),fun pt hpt=>?_⟩
  have t1:=z_d hpt (.tup [.str "wire",.str "box"])
  have g1:=z_c (H:=H') (a:=pt) (o:=.tup [.str "wire",.str "box"])
  generalize upd H' pt (.tup [.str "wire",.str "box"])=H2 at t1 g1 ⊢
  refine ⟨pt,_,rfl,.inr (SqT.of g1),rfl,rfl,_,rfl,?_⟩
  refine y_k (by decide) ?_
  refine ⟨_,rfl,.inl ⟨rfl,_,SqL.of (t1 _ _ fp)⟩,_,rfl,rr,_,_,_,rfl,rfl,SqT.of (t1 _ _ hr),rfl,_,rfl,_,rfl,rr,_,_,_,rfl,rfl,SqT.of (t1 _ _ hr),rfl,_,_,rfl,rfl,?_,(by show 2<=sizeLine;decide),fun pu hpu=>?_⟩
  ·have:=ok.ns _ (ok.n_mem (j:=P.I+k) (by lia))
   exact small (by show 0+_<=_;lia)
  have t2:=z_d hpu (.tup [.str "box",.str ("" ++ P.n (P.I+k))])
  have g2:=z_c (H:=H2) (a:=pu) (o:=.tup [.str "box",.str ("" ++ P.n (P.I+k))])
  generalize upd H2 pu (.tup [.str "box",.str ("" ++ P.n (P.I+k))])=H3 at t2 g2 ⊢
  have t12:=t1.trans t2
  refine ⟨_,rfl,_,rfl,_,rfl,_,rfl,rr,_,rfl,t12 _ _ hr,fun pv H4 t3 g3=>?_⟩
  have e3:cutV [V.str "box",V.str (P.n (P.I+k)),V.int P.W,V.int (P.f k),sv] (some 2) (some (-1))=[V.int P.W,V.int (P.f k)]:=rfl
  rw [e3] at g3
  refine ⟨pu,pv,_,_,rfl,rfl,t3 _ _ g2,g3,(by show 2+2<=sizeLine;decide),fun pw H5 t4 g4=>?_⟩
  have t15:=t12.trans (t3.trans t4)
  refine ⟨_,rfl,_,rfl,rr,_,_,_,rfl,rfl,SqT.of (t15 _ _ hr),rfl,_,rfl,P.say k,P.say k,sv, "",rfl,hs.same t15,ok.ren hkB,fun sv' H6 t5 hs'=>?_⟩
  refine ⟨(by show 1<=sizeLine;decide),fun px hpx=>?_⟩
  have t6:=z_d hpx (.tup [sv'])
  refine ⟨pw,px,_,_,rfl,rfl,(t5.trans t6) _ _ g4,z_c,(by show 4+1<=sizeLine;decide),fun pz H8 t7 g7=>?_⟩
  have T8:=t15.trans (t5.trans (t6.trans t7))
  have hs8:=hs'.same (t6.trans t7)
  have fp8:=T8 _ _ fp
  refine ⟨p,_,_,rfl,rfl,fp8,y_j (by lia),?_⟩
  have keep:KeepT H8 (upd H8 p (.lst (zs++[.ref pz]))):=KeepT.lst fp8 _
  have nL:∀ k,noL (P.row k)=true:=fun k=>by
   show noLs [_,_,_,_,P.say k]=true
   simp [noLs,noL,Bx.noL_say]
  refine ⟨_,zs++[.ref pz],rfl,sameUpd (s'.trans T8) hp _,z_c,by rw [List.length_append,hzl];rfl,?_⟩
  rw [x_i hdr0]
  refine Dats.append (Dats.keepT keep (noLs_all fun d hd=>?_) (hzd.same T8)) (.cons ?_ .nil)
  ·obtain ⟨k',_,rfl⟩:=List.mem_map.mp (List.mem_of_mem_take hd)
   exact nL k'
  ·refine Dat.keepT keep (nL k) (Dat.tup g7 ?_)
   rw [show ("" : Str)++P.n (P.I+k)=P.n (P.I+k) from Str.empty_append _]
   exact .cons (Dat.str _) (.cons (Dat.str _) (.cons (Dat.int _) (.cons (Dat.int _) (.cons hs8 .nil))))
 ·rintro σ H' ⟨x,zs,rfl,s',fp,hzl,hzd⟩
  rw [List.take_of_length_le (by rw [List.length_map,ok.rl];lia)] at hzd
  exact ⟨_,rfl,q p zs H' hp s' fp hzd⟩
theorem ok_spread(T:Tx w K mg A)(G_brings_rows:FnOk P w K mg base CX0 1 A.a_brings_rows A.d_brings_rows ["part", "parts"] sp_brings)(G_rows_of:FnOk P w K mg base CX0 10 A.a_rows_of A.d_rows_of ["part", "ahead", "parts"] sp_rowsof):FnOk P w K mg base CX0 11 A.a_spread A.d_spread ["plan"] sp_spread15:=by
 refine T.F_spread.ok sc_spread (fun vs H Q E h=>?_) (fun cdv A' outer s H vs Q E hr h=>?_)
 ·obtain ⟨P,pl,pa,rfl,ok,hpl,hD,q⟩:=h
  rfl
 obtain ⟨P,pl,pa,rfl,ok,hpl,hD,q⟩:=h
 have hu:=hu_of hr
 refine ⟨_,(z_b (z_p (i:=1) sc_spread.nd rfl (Or.inl rfl) pe_dnewK)
  (z_b (ps_for PassesOwn.never rfl (y_r (pv 0)) (y_g (i:=2) sc_spread.nd rfl (Or.inl rfl))
    (z_h (y_x (pt_truth (z_l G_brings_rows (hr.mono (by first | decide | lia)) rfl T.M_brings_rows T.F_brings_rows.kp T.B_brings_rows .nil pass0 (z_a (pv 2) (z_a (pv 1) z_e))) (fun _=>rfl)) (z_h (ps_dput hu (pv 1) (z_m z_w (pv 2) z_f (fun _ _=>rfl)) (pv 2) rfl)) z_y)))
  (z_b (z_p (i:=3) sc_spread.nd rfl (Or.inl rfl) (z_m z_o (pv 0) (pe_un un_neg z_f) (fun _ _=>rfl)))
  (z_h (z_v (y_v (z_a (y_i call_list_of rfl T.list PyProof.Rows.boot_list (z_a (z_m z_w (pv 3) z_f (fun _ _=>rfl)) z_e)) (z_a (y_i call_list_of rfl T.list PyProof.Rows.boot_list (z_a (z_m z_w (pv 3) z_f (fun _ _=>rfl)) z_e)) (z_a (z_l G_rows_of (hr.mono (by first | decide | lia)) rfl T.M_rows_of T.F_rows_of.kp T.B_rows_of .nil pass0 (z_a (pv 3) (z_a z_z (z_a (pv 1) z_e)))) z_e))))))))),?_⟩
 obtain ⟨r,pd,po,pr,ds,os,rs,er,h1,h2,h3,h4,d1,d2,d3⟩:=Bx.part_at hD
 cases er
 intro dd hdd
 have s1:=z_d hdd (.dK [])
 have g1:=z_c (H:=H) (a:=dd) (o:=.dK [])
 dsimp only [gName]
 generalize upd H dd (.dK [])=H1 at s1 g1 ⊢
 refine ⟨_,rfl,pl,rfl,⟨_,SqL.of (s1 _ _ hpl)⟩,for_list (xs:=[.ref pa]) (fun i σ H'=>∃ (x:Option V) (kvs:List (Key×V)),σ=[some (.ref pl),some (.ref dd),x,none]/\Same H H'/\H' dd=some (.dK kvs)/\kvs.length<=i) ⟨_,[],rfl,s1,g1,Nat.le_refl _⟩ ?_ ?_ ?_⟩
 ·rintro i σ H' _ ⟨_,_,rfl,s',_⟩
  exact SqL.of (s' _ _ hpl)
 ·rintro i v σ H' hv ⟨x,kvs,rfl,s',fd,hk⟩
  obtain rfl:v = .ref pa:=List.mem_singleton.mp (List.mem_of_getElem? hv)
  have hi:i<1:=(List.getElem?_eq_some_iff.mp hv).1
  refine ⟨_,rfl,_,rfl,P,pa,dd,rfl,ok,hD.same s',_,rfl,?_⟩
  refine y_k rfl ?_
  refine ⟨_,rfl,_,rfl,_,rfl,pa,_,_,_,rfl,rfl,SqT.of (s' _ _ h1),rfl,dd,_,rfl,DPut.k (k:=.inr "a") fd (y_j (by lia)),?_⟩
  exact ⟨_,_,rfl,sameUpd s' hdd _,z_c,by have:=x_d kvs (.inr "a") (V.ref pa);lia⟩
 ·rintro σ H' ⟨x,kvs,rfl,s',fd,hk⟩
  refine ⟨_,rfl,_,rfl,pl,_,_,_,rfl,rfl,SqL.of (s' _ _ hpl),rfl,?_⟩
  refine ⟨_,rfl,pa,_,_,_,rfl,rfl,SqT.of (s' _ _ h1),rfl,pd,_,rfl,.inr (SqT.of (s' _ _ h2)),fun l1 hl1=>?_⟩
  have t1:=z_d hl1 (.lst ds)
  have g1:=z_c (H:=H') (a:=l1) (o:=.lst ds)
  generalize upd H' l1 (.lst ds)=H2 at t1 g1 ⊢
  have s2:=s'.trans t1
  refine ⟨_,rfl,pa,_,_,_,rfl,rfl,SqT.of (s2 _ _ h1),rfl,po,_,rfl,.inr (SqT.of (s2 _ _ h3)),fun l2 hl2=>?_⟩
  have t2:=z_d hl2 (.lst os)
  have g2:=z_c (H:=H2) (a:=l2) (o:=.lst os)
  generalize upd H2 l2 (.lst os)=H3 at t2 g2 ⊢
  have s3:=s2.trans t2
  refine ⟨_,rfl,_,rfl,P,pa,dd,rfl,ok,hD.same s3,fun l3 x3 H4 hl3 t3 g3 hx3=>?_⟩
  refine ⟨(by show 3<=sizeLine;decide),fun t ht=>?_⟩
  have t4:=z_d ht (.tup [.ref l1,.ref l2,.ref l3])
  exact q t l1 l2 l3 ds os x3 _ (s3.trans (t3.trans t4)) ⟨s'.free hl1,s2.free hl2,s3.free hl3⟩ z_c (t4 _ _ (t3 _ _ (t2 _ _ g1))) (t4 _ _ (t3 _ _ g2)) (t4 _ _ g3) (d1.same (s3.trans (t3.trans t4))) (d2.same (s3.trans (t3.trans t4))) (hx3.same t4)
theorem ok_waits_of(T:Tx w K mg A)(G_wires_in:FnOk P w K mg base CX0 1 A.a_wires_in A.d_wires_in ["saying"] nv_any):FnOk P w K mg base CX0 2 A.a_waits_of A.d_waits_of ["rows"] sp_waits:=by
 refine T.F_waits_of.ok sc_waits_of (fun vs H Q E h=>?_) (fun cdv A' outer s H vs Q E hr h=>?_)
 ·obtain ⟨P,l,xs,rfl,ok,hl,hX,q⟩:=h
  rfl
 obtain ⟨P,l,xs,rfl,ok,hl,hX,q⟩:=h
 refine ⟨_,(z_b (z_p (i:=1) sc_waits_of.nd rfl (Or.inr rfl) pe_dnewK)
  (z_b (ps_for PassesOwn.never rfl (y_r (pv 0)) (y_g (i:=2) sc_waits_of.nd rfl (Or.inl rfl))
    (z_h (y_x (z_q x_e (z_m z_w (pv 2) z_f (fun _ _=>rfl)) z_z (nomark _)) (z_h x_f) z_y)))
  (z_b (z_p (i:=3) sc_waits_of.nd rfl (Or.inl rfl) pe_dnewK)
  (z_b (ps_for PassesOwn.never rfl (y_r (pv 0)) (y_g (i:=2) sc_waits_of.nd rfl (Or.inl rfl))
    (z_h (y_x (z_q x_e (z_m z_w (pv 2) z_f (fun _ _=>rfl)) z_z (nomark _)) (z_b x_f
  (z_h x_f)) z_y)))
  (z_h (z_v (pv 3))))))),?_⟩
 intro dn hdn
 have s1:=z_d hdn (.dK [])
 dsimp only [gName]
 generalize upd H dn (.dK [])=H1 at s1 ⊢
 refine ⟨_,rfl,l,rfl,⟨_,SqL.of (s1 _ _ hl)⟩,for_list (xs:=xs) (fun i σ H'=>∃ (x:Option V),σ=[some (.ref l),some (.ref dn),x,none,none]/\H1=H') ⟨_,rfl,rfl⟩ ?_ ?_ ?_⟩
 ·rintro i σ H' _ ⟨_,rfl,rfl⟩
  exact SqL.of (s1 _ _ hl)
 ·rintro i v σ H' hv ⟨x,rfl,rfl⟩
  obtain ⟨dr,hdr,hvd⟩:=hX.get hv
  rw [List.getElem?_map] at hdr
  obtain ⟨k,hk,rfl⟩:=Option.map_eq_some_iff.mp hdr
  obtain ⟨rr,sv,rfl,hr,hs⟩:=Bx.row_at (hvd.same s1)
  refine ⟨_,rfl,rr,_,_,_,rfl,rfl,SqT.of hr,rfl,rfl,_,rfl,?_⟩
  exact z_i (by decide) ⟨_,rfl,rfl⟩
 rintro σ H' ⟨x,rfl,rfl⟩
 intro dw hdw
 have s2:=z_d hdw (.dK [])
 have g2:=z_c (H:=H1) (a:=dw) (o:=.dK [])
 dsimp only [gName]
 generalize upd H1 dw (.dK [])=H2 at s2 g2 ⊢
 have s12:=s1.trans s2
 refine ⟨_,rfl,l,rfl,⟨_,SqL.of (s12 _ _ hl)⟩,for_list (xs:=xs) (fun i σ H'=>∃ (x:Option V),σ=[some (.ref l),some (.ref dn),x,some (.ref dw),none]/\H2=H') ⟨_,rfl,rfl⟩ ?_ ?_ ?_⟩
 ·rintro i σ H' _ ⟨_,rfl,rfl⟩
  exact SqL.of (s12 _ _ hl)
 ·rintro i v σ H' hv ⟨x,rfl,rfl⟩
  obtain ⟨dr,hdr,hvd⟩:=hX.get hv
  rw [List.getElem?_map] at hdr
  obtain ⟨k,hk,rfl⟩:=Option.map_eq_some_iff.mp hdr
  obtain ⟨rr,sv,rfl,hr,hs⟩:=Bx.row_at (hvd.same s12)
  refine ⟨_,rfl,rr,_,_,_,rfl,rfl,SqT.of hr,rfl,rfl,_,rfl,?_⟩
  exact z_i (by decide) ⟨_,rfl,rfl⟩
 rintro σ H' ⟨x,rfl,rfl⟩
 exact ⟨_,rfl,q dw _ (s1.free hdw) s12 g2⟩
theorem ok_order_of(T:Tx w K mg A)(G_waits_of:FnOk P w K mg base CX0 2 A.a_waits_of A.d_waits_of ["rows"] sp_waits)(G_ring_in:FnOk P w K mg base CX0 1 A.a_ring_in A.d_ring_in ["waits", "missing"] nv_any):FnOk P w K mg base CX0 3 A.a_order_of A.d_order_of ["rows"] sp_order:=by
 refine T.F_order_of.ok sc_order_of (fun vs H Q E h=>?_) (fun cdv A' outer s H vs Q E hr h=>?_)
 ·obtain ⟨P,l,xs,rfl,ok,hl,hX,q⟩:=h
  rfl
 obtain ⟨P,l,xs,rfl,ok,hl,hX,q⟩:=h
 have hu:=hu_of hr
 refine ⟨_,(z_b (z_p (i:=1) sc_order_of.nd rfl (Or.inl rfl) (z_l G_waits_of (hr.mono (by first | decide | lia)) rfl T.M_waits_of T.F_waits_of.kp T.B_waits_of .nil pass0 (z_a (pv 0) z_e)))
  (z_b (ps_frz (z_p (i:=2) sc_order_of.nd rfl (Or.inl rfl) pe_dnewK))
  (z_b (z_p (i:=3) sc_order_of.nd rfl (Or.inr rfl) pe_dnewK)
  (z_b (ps_for PassesOwn.never rfl (pi_dict (pv 1)) (y_g (i:=4) sc_order_of.nd rfl (Or.inl rfl))
    (z_b x_f
  (z_h x_f)))
  (z_b (ps_comp [3] sc_order_of.nd (i:=6) rfl (Or.inl rfl) (fun _ _ h=>h) rfl (pi_dict (pv 1)) (fun _ _ _ _=>(pts_one (z_q x_e (pe_dget hu (pv 1) (pv 0) (fun _ _=>rfl)) z_f (nomark _)))) (fun _ _ _ _=>(pv 0)) rfl (show ∀ j∈([3]:List Nat),j<8 by decide) (show (["name", "missing"]:List Str).Nodup by decide +kernel) (by with_unfolding_all rfl))
  (z_b (z_p (i:=7) sc_order_of.nd rfl (Or.inl rfl) z_f)
  (z_b (ps_while PassesOwn.never (z_q op_lt (pv 7) (z_x y_y rfl T.len PySem.boot_len (z_a (pv 6) z_e)) (nomark _))
    (z_b x_f
  (z_h x_f)))
  (z_b (y_x (z_q op_lt (z_x y_y rfl T.len PySem.boot_len (z_a (pv 6) z_e)) (z_x call_lenR rfl T.len PySem.boot_len (z_a (pv 1) z_e)) (nomark _)) (z_h x_f) z_y)
  (z_h (z_v (pv 6))))))))))),?_⟩
 refine ⟨_,rfl,P,l,xs,rfl,ok,hl,hX,fun dw H1 hdw s1 g1=>?_⟩
 refine ⟨dw,[],g1,fun o=>?_⟩
 have z1:Same H (upd H1 dw (.frz o (.dK []))):=sameUpd s1 hdw _
 have g2:=z_c (H:=H1) (a:=dw) (o:=.frz o (.dK []))
 generalize upd H1 dw (.frz o (.dK []))=H2 at z1 g2 ⊢
 intro d1 hd1
 have t1:=z_d hd1 (.dK [])
 dsimp only [gName]
 generalize upd H2 d1 (.dK [])=H3 at t1 ⊢
 intro d2 hd2
 have t2:=z_d hd2 (.dK [])
 dsimp only [gName]
 generalize upd H3 d2 (.dK [])=H4 at t2 ⊢
 have z4:=z1.trans (t1.trans t2)
 have g4:=t2 _ _ (t1 _ _ g2)
 refine ⟨_,rfl,dw,o,[],rfl,g4,for_dict (fun i σ H'=>σ=[some (.ref l),some (.ref dw),some (.ref d1),some (.ref d2),none,none,none,none]/\H4=H') ⟨rfl,rfl⟩ ?_ ?_ ?_⟩
 ·rintro i σ H' _ ⟨rfl,rfl⟩
  exact g4
 ·rintro i kv σ H' hkv _
  simp at hkv
 rintro σ H' ⟨rfl,rfl⟩
 refine ⟨_,rfl,dw,o,[],rfl,g4,comp_dict (fun i ys H'=>ys=[]/\H4=H') ⟨rfl,rfl⟩ ?_ ?_ ?_ ?_⟩
 ·rintro i ys H' _ ⟨rfl,rfl⟩
  exact g4
 ·rintro i ys H' hi _
  exact absurd hi (Nat.not_lt_zero _)
 ·rintro i kv ys H' hkv _
  simp at hkv
 rintro ys H' ⟨rfl,rfl⟩ po hpo
 have t5:=z_d hpo (.lst [])
 have g5:=z_c (H:=H4) (a:=po) (o:=.lst [])
 have g5d:=t5 _ _ g4
 dsimp only [gName]
 generalize upd H4 po (.lst [])=H5 at t5 g5 g5d ⊢
 refine while_by (fun σ H'=>σ=[some (.ref l),some (.ref dw),some (.ref d1),some (.ref d2),none,none,some (.ref po),some (.int 0)]/\H5=H') (fun _ _=>0) ⟨rfl,rfl⟩ ?_ ?_
 ·rintro σ H' ⟨rfl,rfl⟩
  refine ⟨_,rfl,_,rfl,_,_,rfl,.inl ⟨_,SqL.of g5,rfl⟩,_,_,rfl,rfl,_,rfl,?_⟩
  refine z_i (by decide) ?_
  refine ⟨_,rfl,_,_,rfl,.inl ⟨_,SqL.of g5,rfl⟩,_,rfl,dw,[],rfl,.inr ⟨o,g5d⟩,_,_,rfl,rfl,_,rfl,?_⟩
  refine z_i (by decide) ?_
  exact ⟨_,rfl,q po _ (z4.free hpo) (z4.trans t5) g5⟩
 ·rintro σ H' Q Q' hQ ⟨v,e1,w',e2,x,y,e3,h4,i,j,e5,e6,b,e7,h8⟩
  exact ⟨v,e1,w',e2,x,y,e3,h4,i,j,e5,e6,b,e7,hQ _ _ h8⟩
theorem ok_worth_of_two(T:Tx w K mg A)(G_two_to:FnOk P w K mg base CX0 1 A.a_two_to A.d_two_to ["many"] sp_two_to):FnOk P w K mg base CX0 2 A.a_worth_of_two A.d_worth_of_two ["word", "width", "a", "b"] sp_of_two:=by
 refine T.F_worth_of_two.ok sc_worth_of_two (fun vs H Q E h=>?_) (fun cdv A' outer s H vs Q E hr h=>?_)
 ·obtain ⟨z,a,x,y,w,val,rfl,ev,nj,ha,hw,q⟩:=h
  rfl
 obtain ⟨z,a,x,y,w,val,rfl,ev,nj,ha,hw,q⟩:=h
 refine ⟨_,(z_b (y_x (z_q x_e (pv 0) z_z (nomark _)) (z_h (z_v (z_t op_and (pv 2) (pv 3)))) z_y)
  (z_b (y_x (z_q x_e (pv 0) z_z (nomark _)) (z_h (z_v (z_t op_or (pv 2) (pv 3)))) z_y)
  (z_b (y_x (z_q x_e (pv 0) z_z (nomark _)) (z_h (z_v (z_t op_xor (pv 2) (pv 3)))) z_y)
  (z_b (y_x (z_q x_e (pv 0) z_z (nomark _)) (z_h (z_v (z_t op_mod (z_t y_u (pv 2) (pv 3)) (z_l G_two_to (hr.mono (by first | decide | lia)) rfl T.M_two_to T.F_two_to.kp T.B_two_to .nil pass0 (z_a (pv 1) z_e))))) z_y)
  (z_b (y_x (z_q x_e (pv 0) z_z (nomark _)) (z_h (z_v (z_t op_mod (z_t op_sub (pv 2) (pv 3)) (z_l G_two_to (hr.mono (by first | decide | lia)) rfl T.M_two_to T.F_two_to.kp T.B_two_to .nil pass0 (z_a (pv 1) z_e))))) z_y)
  (z_b (y_x (z_q x_e (pv 0) z_z (nomark _)) (z_h (z_v (pe_ifExp (z_q op_lt (pv 2) (pv 3) (nomark _)) z_f z_f))) z_y)
  (z_h (z_v (pe_ifExp (z_q x_e (pv 2) (pv 3) (nomark _)) z_f z_f))))))))),?_⟩
 refine ⟨_,rfl,rfl,_,rfl,?_⟩
 generalize hh:([]:List PyData)=hd at ev
 generalize h1:[a,a]=ws at ev
 generalize h2:[x,y]=us at ev
 cases ev with
 | not=>cases h1
 | choice=>cases h1
 | up=>cases h1
 | down=>cases h1
 | cut=>cases h1
 | table=>cases h1
 | join=>exact absurd rfl nj
 | and =>
  cases h1;cases h2
  exact y_k (by decide) ⟨_,rfl,_,rfl,_,_,rfl,rfl,q⟩
 | or =>
  cases h1;cases h2
  refine z_i (by decide) ⟨_,rfl,rfl,_,rfl,?_⟩
  exact y_k (by decide) ⟨_,rfl,_,rfl,_,_,rfl,rfl,q⟩
 | odd =>
  cases h1;cases h2
  refine z_i (by decide) ⟨_,rfl,rfl,_,rfl,?_⟩
  refine z_i (by decide) ⟨_,rfl,rfl,_,rfl,?_⟩
  exact y_k (by decide) ⟨_,rfl,_,rfl,_,_,rfl,rfl,q⟩
 | sum =>
  cases h1;cases h2
  refine z_i (by decide) ⟨_,rfl,rfl,_,rfl,?_⟩
  refine z_i (by decide) ⟨_,rfl,rfl,_,rfl,?_⟩
  refine z_i (by decide) ⟨_,rfl,rfl,_,rfl,?_⟩
  exact y_k (by decide) ⟨_,rfl,_,rfl,_,_,rfl,rfl,_,rfl,_,rfl,by lia,by lia,_,_,rfl,rfl,pow_pos2 _,q⟩
 | less =>
  cases h1;cases h2
  refine z_i (by decide) ⟨_,rfl,rfl,_,rfl,?_⟩
  refine z_i (by decide) ⟨_,rfl,rfl,_,rfl,?_⟩
  refine z_i (by decide) ⟨_,rfl,rfl,_,rfl,?_⟩
  refine z_i (by decide) ⟨_,rfl,rfl,_,rfl,?_⟩
  exact y_k (by decide) ⟨_,rfl,_,rfl,_,_,rfl,rfl,_,rfl,_,rfl,by lia,by lia,_,_,rfl,rfl,pow_pos2 _,q⟩
 | under =>
  cases h1;cases h2
  refine z_i (by decide) ⟨_,rfl,rfl,_,rfl,?_⟩
  refine z_i (by decide) ⟨_,rfl,rfl,_,rfl,?_⟩
  refine z_i (by decide) ⟨_,rfl,rfl,_,rfl,?_⟩
  refine z_i (by decide) ⟨_,rfl,rfl,_,rfl,?_⟩
  refine z_i (by decide) ⟨_,rfl,rfl,_,rfl,?_⟩
  refine y_k (by decide) ⟨_,rfl,_,rfl,_,_,rfl,rfl,_,rfl,?_⟩
  by_cases c:x<y
  ·rw [if_pos c] at q
   exact y_k (decide_eq_true c) q
  ·rw [if_neg c] at q
   exact z_i (decide_eq_false c) q
 | same =>
  cases h1;cases h2
  refine z_i (by decide) ⟨_,rfl,rfl,_,rfl,?_⟩
  refine z_i (by decide) ⟨_,rfl,rfl,_,rfl,?_⟩
  refine z_i (by decide) ⟨_,rfl,rfl,_,rfl,?_⟩
  refine z_i (by decide) ⟨_,rfl,rfl,_,rfl,?_⟩
  refine z_i (by decide) ⟨_,rfl,rfl,_,rfl,?_⟩
  refine z_i (by decide) ⟨_,rfl,_,rfl,rfl,_,rfl,?_⟩
  by_cases c:x=y
  ·rw [if_pos c] at q
   exact y_k (decide_eq_true (by rw [c])) q
  ·rw [if_neg c] at q
   exact z_i (decide_eq_false fun h=>c (by injection h)) q
theorem ok_worth_of_one(T:Tx w K mg A)(G_two_to:FnOk P w K mg base CX0 1 A.a_two_to A.d_two_to ["many"] sp_two_to):FnOk P w K mg base CX0 2 A.a_worth_of_one A.d_worth_of_one ["saying", "width", "a"] sp_of_one:=by
 refine T.F_worth_of_one.ok sc_worth_of_one (fun vs H Q E h=>?_) (fun cdv A' outer s H vs Q E hr h=>?_)
 ·obtain ⟨z,hd,subs,v,a,x,w,val,rfl,hD,ev,ha,hw,q⟩:=h
  rfl
 obtain ⟨z,hd,subs,v,a,x,w,val,rfl,hD,ev,ha,hw,q⟩:=h
 refine ⟨_,(z_b (z_p (i:=3) sc_worth_of_one.nd rfl (Or.inl rfl) (z_m z_w (pv 0) z_f (fun _ _=>rfl)))
  (z_b (y_x (z_q x_e (pv 3) z_z (nomark _)) (z_h (z_v (z_t op_sub (z_t op_sub (z_l G_two_to (hr.mono (by first | decide | lia)) rfl T.M_two_to T.F_two_to.kp T.B_two_to .nil pass0 (z_a (pv 1) z_e)) z_f) (pv 2)))) z_y)
  (z_b (y_x (z_q x_e (pv 3) z_z (nomark _)) (z_h (z_v (z_t op_mod (z_t op_mul (pv 2) (z_l G_two_to (hr.mono (by first | decide | lia)) rfl T.M_two_to T.F_two_to.kp T.B_two_to .nil pass0 (z_a (z_m z_w (pv 0) z_f (fun _ _=>rfl)) z_e))) (z_l G_two_to (hr.mono (by first | decide | lia)) rfl T.M_two_to T.F_two_to.kp T.B_two_to .nil pass0 (z_a (pv 1) z_e))))) z_y)
  (z_b (y_x (z_q x_e (pv 3) z_z (nomark _)) (z_h (z_v (z_t op_fdivL (pv 2) (z_l G_two_to (hr.mono (by first | decide | lia)) rfl T.M_two_to T.F_two_to.kp T.B_two_to .nil pass0 (z_a (z_m z_w (pv 0) z_f (fun _ _=>rfl)) z_e))))) z_y)
  (z_b (y_x (z_q x_e (pv 3) z_z (nomark _)) (z_h (z_v (z_t op_mod (z_t op_fdivL (pv 2) (z_l G_two_to (hr.mono (by first | decide | lia)) rfl T.M_two_to T.F_two_to.kp T.B_two_to .nil pass0 (z_a (z_m z_w (pv 0) z_f (fun _ _=>rfl)) z_e))) (z_l G_two_to (hr.mono (by first | decide | lia)) rfl T.M_two_to T.F_two_to.kp T.B_two_to .nil pass0 (z_a (pv 1) z_e))))) z_y)
  (z_h (z_v (z_m z_w (z_m z_w (pv 0) z_f (fun _ _=>rfl)) (pv 2) (fun _ _=>rfl))))))))),?_⟩
 obtain ⟨p,xs,rfl,hp,hxs⟩:=hD.tupI
 obtain ⟨x0,r0,rfl,h0,hr0⟩:=hxs.consI
 have e0:x0 = .str z:=by unfold Dat at h0;exact h0
 subst e0
 refine ⟨_,rfl,p,_,_,_,rfl,rfl,SqT.of hp,(show atI _ ((0:Nat):Int)=_ from z_u rfl),?_⟩
 refine ⟨_,rfl,rfl,_,rfl,?_⟩
 generalize h1:[a]=ws at ev
 generalize h2:[x]=us at ev
 cases ev with
 | and=>cases h1
 | or=>cases h1
 | odd=>cases h1
 | sum=>cases h1
 | less=>cases h1
 | under=>cases h1
 | same=>cases h1
 | choice=>cases h1
 | join=>cases h1
 | not =>
  cases h1;cases h2
  exact y_k (by decide) ⟨_,rfl,_,rfl,by lia,by lia,_,_,rfl,rfl,_,rfl,_,_,rfl,rfl,q _ (Same.refl H)⟩
 | up k _ _ k0 k1 =>
  cases h1;cases h2
  obtain ⟨x1,r1,rfl,hx1,_⟩:=hr0.consI
  have e1:=hx1.intI
  subst e1
  refine z_i (by decide) ⟨_,rfl,rfl,_,rfl,?_⟩
  exact y_k (by decide) ⟨_,rfl,_,rfl,p,_,_,_,rfl,rfl,SqT.of hp,(show atI _ ((1:Nat):Int)=_ from z_u rfl),k,rfl,by lia,by lia,_,_,rfl,rfl,.inr ⟨Int.lt_trans (by decide) (pow_pos2 _),Int.lt_of_le_of_lt (pow_le2 (by lia)) (by decide)⟩,_,rfl,_,rfl,by lia,by lia,_,_,rfl,rfl,pow_pos2 _,q _ (Same.refl H)⟩
 | down k _ _ k0 k1 =>
  cases h1;cases h2
  obtain ⟨x1,r1,rfl,hx1,_⟩:=hr0.consI
  have e1:=hx1.intI
  subst e1
  refine z_i (by decide) ⟨_,rfl,rfl,_,rfl,?_⟩
  refine z_i (by decide) ⟨_,rfl,rfl,_,rfl,?_⟩
  exact y_k (by decide) ⟨_,rfl,_,rfl,p,_,_,_,rfl,rfl,SqT.of hp,(show atI _ ((1:Nat):Int)=_ from z_u rfl),k,rfl,by lia,by lia,_,_,rfl,rfl,⟨pow_pos2 _,Int.lt_of_le_of_lt (pow_le2 (by lia)) (by decide)⟩,q _ (Same.refl H)⟩
 | cut f _ _ _ f0 w0 hf =>
  cases h1;cases h2
  obtain ⟨x1,r1,rfl,hx1,_⟩:=hr0.consI
  have e1:=hx1.intI
  subst e1
  refine z_i (by decide) ⟨_,rfl,rfl,_,rfl,?_⟩
  refine z_i (by decide) ⟨_,rfl,rfl,_,rfl,?_⟩
  refine z_i (by decide) ⟨_,rfl,rfl,_,rfl,?_⟩
  exact y_k (by decide) ⟨_,rfl,_,rfl,p,_,_,_,rfl,rfl,SqT.of hp,(show atI _ ((1:Nat):Int)=_ from z_u rfl),f,rfl,by lia,by lia,_,_,rfl,rfl,⟨pow_pos2 _,Int.lt_of_le_of_lt (pow_le2 (by lia)) (by decide)⟩,_,rfl,_,rfl,by lia,by lia,_,_,rfl,rfl,pow_pos2 _,q _ (Same.refl H)⟩
 | table _ _ _ ns h4 hl x0 x1 =>
  cases h1;cases h2
  obtain ⟨y1,r1,rfl,hy1,hr1⟩:=hr0.consI
  obtain ⟨y2,r2,rfl,hy2,hr2⟩:=hr1.consI
  obtain ⟨pt,ts,rfl,hpt,hts⟩:=hy2.tupI
  have ets:ts=ns.map V.int:=dats_ints hts
  subst ets
  refine z_i (by decide) ⟨_,rfl,rfl,_,rfl,?_⟩
  refine z_i (by decide) ⟨_,rfl,rfl,_,rfl,?_⟩
  refine z_i (by decide) ⟨_,rfl,rfl,_,rfl,?_⟩
  exact z_i (by decide) ⟨_,rfl,p,_,_,_,rfl,rfl,SqT.of hp,(show atI _ ((2:Nat):Int)=_ from z_u rfl),_,rfl,pt,_,_,_,rfl,rfl,SqT.of hpt,at_getD x0 (by rw [hl];exact x1),q _ (Same.refl H)⟩
theorem ok_measured(T:Tx w K mg A)(G_two_to:FnOk P w K mg base CX0 1 A.a_two_to A.d_two_to ["many"] sp_two_to)(G_sayings_in:FnOk P w K mg base CX0 1 A.a_sayings_in A.d_sayings_in ["saying"] x_h)(G_width_over:FnOk P w K mg base CX0 2 A.a_width_over A.d_width_over ["saying", "inner"] sp_width_over)(G_worth_of_one:FnOk P w K mg base CX0 2 A.a_worth_of_one A.d_worth_of_one ["saying", "width", "a"] sp_of_one)(G_worth_of_two:FnOk P w K mg base CX0 2 A.a_worth_of_two A.d_worth_of_two ["word", "width", "a", "b"] sp_of_two)(n:Nat)(G_measured:FnOk P w K mg base CX0 (n+2) A.a_measured A.d_measured ["saying", "widths", "numbers"] (sp_meas n)):FnOk P w K mg base CX0 (n+3) A.a_measured A.d_measured ["saying", "widths", "numbers"] (sp_meas (n+1)):=by
 refine T.F_measured.ok sc_measured (fun vs H Q E h=>?_) (fun cdv A' outer s H vs Q E hr h=>?_)
 ·obtain ⟨d,v,wd,nd,wk,nk,w,x,rfl,hD,hwd,hnd,hM,q⟩:=h
  rfl
 obtain ⟨d,v,wd,nd,wk,nk,w,x,rfl,hD,hwd,hnd,hM,q⟩:=h
 have hu:=hu_of hr
 refine ⟨_,(z_b (z_p (i:=3) sc_measured.nd rfl (Or.inl rfl) (z_m z_w (pv 0) z_f (fun _ _=>rfl)))
  (z_b (y_x (z_q x_e (pv 3) z_z (nomark _)) (z_h (z_v (y_v (z_a (pe_dget hu (pv 1) (z_m z_w (pv 0) z_f (fun _ _=>rfl)) (fun _ _=>rfl)) (z_a (pe_dget hu (pv 2) (z_m z_w (pv 0) z_f (fun _ _=>rfl)) (fun _ _=>rfl)) z_e))))) z_y)
  (z_b (y_x (z_q x_e (pv 3) z_z (nomark _)) (z_h (z_v (y_v (z_a (z_m z_w (pv 0) z_f (fun _ _=>rfl)) (z_a (z_m z_w (pv 0) z_f (fun _ _=>rfl)) z_e))))) z_y)
  (z_b (ps_comp [1,2] sc_measured.nd (i:=4) rfl (Or.inl rfl) (fun _ _ h=>h) rfl (pi_tup (z_l G_sayings_in (hr.mono (by first | decide | lia)) rfl T.M_sayings_in T.F_sayings_in.kp T.B_sayings_in .nil pass0 (z_a (pv 0) z_e))) (fun _ _ _ _=>y_s) (fun _ _ _ _=>(z_l G_measured (hr.mono (by first | decide | lia)) rfl T.M_measured T.F_measured.kp T.B_measured .nil pass0 (z_a (pv 0) (z_a (pv 1) (z_a (pv 2) z_e))))) rfl (show ∀ j∈([1,2]:List Nat),j<8 by decide) (show (["piece", "widths", "numbers"]:List Str).Nodup by decide +kernel) (by with_unfolding_all rfl))
  (z_b (ps_comp [] sc_measured.nd (i:=5) rfl (Or.inl rfl) (fun _ _ h=>h) rfl (y_r (pv 4)) (fun _ _ _ _=>y_s) (fun _ _ _ _=>(z_m (ix_tupK (K:=K) rfl) (pv 0) z_f (fun _ _=>rfl))) rfl (show ∀ j∈([]:List Nat),j<8 by decide) (show (["pair"]:List Str).Nodup by decide +kernel) (by with_unfolding_all rfl))
  (z_b (ps_comp [] sc_measured.nd (i:=6) rfl (Or.inl rfl) (fun _ _ h=>h) rfl (y_r (pv 4)) (fun _ _ _ _=>y_s) (fun _ _ _ _=>(z_m (ix_tupK (K:=K) rfl) (pv 0) z_f (fun _ _=>rfl))) rfl (show ∀ j∈([]:List Nat),j<8 by decide) (show (["pair"]:List Str).Nodup by decide +kernel) (by with_unfolding_all rfl))
  (z_b (z_p (i:=7) sc_measured.nd rfl (Or.inl rfl) (z_l G_width_over (hr.mono (by first | decide | lia)) rfl T.M_width_over T.F_width_over.kp T.B_width_over .nil pass0 (z_a (pv 0) (z_a (pv 5) z_e))))
  (z_b (y_x (z_q x_e (pv 3) z_z (nomark _)) (z_h (z_v (y_v (z_a (pv 7) (z_a (pe_ifExp (z_q x_e (z_m z_o (pv 6) z_f (fun _ _=>rfl)) z_f (nomark _)) (z_m z_o (pv 6) z_f (fun _ _=>rfl)) (z_m z_o (pv 6) z_f (fun _ _=>rfl))) z_e))))) z_y)
  (z_b (y_x (z_q x_e (pv 3) z_z (nomark _)) (z_h (z_v (y_v (z_a (pv 7) (z_a (z_t y_u (z_m z_o (pv 6) z_f (fun _ _=>rfl)) (z_t op_mul (z_m z_o (pv 6) z_f (fun _ _=>rfl)) (z_l G_two_to (hr.mono (by first | decide | lia)) rfl T.M_two_to T.F_two_to.kp T.B_two_to .nil pass0 (z_a (z_m z_o (pv 5) z_f (fun _ _=>rfl)) z_e)))) z_e))))) z_y)
  (z_b (y_x (z_q x_e (z_x y_y rfl T.len PySem.boot_len (z_a (pv 6) z_e)) z_f (nomark _)) (z_h (z_v (y_v (z_a (pv 7) (z_a (z_l G_worth_of_one (hr.mono (by first | decide | lia)) rfl T.M_worth_of_one T.F_worth_of_one.kp T.B_worth_of_one .nil pass0 (z_a (pv 0) (z_a (pv 7) (z_a (z_m z_o (pv 6) z_f (fun _ _=>rfl)) z_e)))) z_e))))) z_y)
  (z_h (z_v (y_v (z_a (pv 7) (z_a (z_l G_worth_of_two (hr.mono (by first | decide | lia)) rfl T.M_worth_of_two T.F_worth_of_two.kp T.B_worth_of_two .nil pass0 (z_a (pv 3) (z_a (pv 7) (z_a (z_m z_o (pv 6) z_f (fun _ _=>rfl)) (z_a (z_m z_o (pv 6) z_f (fun _ _=>rfl)) z_e))))) z_e))))))))))))))),?_⟩
 obtain ⟨hw8,hM⟩:=hM
 rcases hM with ⟨y,rfl,e1,e2⟩ | rfl | ⟨z,hd,subs,ws,us,rfl,ev,hsl,hwb,hms⟩
 ·obtain ⟨p,xs,rfl,hp,hxs⟩:=hD.tupI
  obtain ⟨x0,r0,rfl,h0,hr0⟩:=hxs.consI
  obtain ⟨x1,r1,rfl,h1,hr1⟩:=hr0.consI
  have f0:x0 = .str "wire" := by unfold Dat at h0;exact h0
  have f1:x1 = .str y:=by unfold Dat at h1;exact h1
  subst f0 f1
  refine ⟨_,rfl,p,_,_,_,rfl,rfl,SqT.of hp,(show atI _ ((0:Nat):Int)=_ from z_u rfl),?_⟩
  refine ⟨_,rfl,rfl,_,rfl,?_⟩
  refine y_k (by decide) ?_
  refine ⟨_,rfl,_,rfl,p,_,_,_,rfl,rfl,SqT.of hp,(show atI _ ((1:Nat):Int)=_ from z_u rfl),wd,_,rfl,dget hwd e1,_,rfl,_,rfl,p,_,_,_,rfl,rfl,SqT.of hp,(show atI _ ((1:Nat):Int)=_ from z_u rfl),nd,_,rfl,dget hnd e2,(by show 2<=sizeLine;decide),fun t ht=>?_⟩
  exact q t _ ht (z_d ht _) z_c
 ·obtain ⟨p,xs,rfl,hp,hxs⟩:=hD.tupI
  obtain ⟨x0,r0,rfl,h0,hr0⟩:=hxs.consI
  obtain ⟨x1,r1,rfl,h1,hr1⟩:=hr0.consI
  obtain ⟨x2,r2,rfl,h2,hr2⟩:=hr1.consI
  have f0:x0 = .str "number" := by unfold Dat at h0;exact h0
  have f1:=h1.intI
  have f2:=h2.intI
  subst f0 f1 f2
  refine ⟨_,rfl,p,_,_,_,rfl,rfl,SqT.of hp,(show atI _ ((0:Nat):Int)=_ from z_u rfl),?_⟩
  refine ⟨_,rfl,rfl,_,rfl,?_⟩
  refine z_i (by decide) ⟨_,rfl,rfl,_,rfl,?_⟩
  refine y_k (by decide) ?_
  refine ⟨_,rfl,p,_,_,_,rfl,rfl,SqT.of hp,(show atI _ ((2:Nat):Int)=_ from z_u rfl),_,rfl,p,_,_,_,rfl,rfl,SqT.of hp,(show atI _ ((1:Nat):Int)=_ from z_u rfl),(by show 2<=sizeLine;decide),fun t ht=>?_⟩
  exact q t _ ht (z_d ht _) z_c
 ·obtain ⟨z1,z2,z3⟩:=ev.word
  obtain ⟨k1,k2,k3,k4⟩:=ev.form
  have hD0:=hD
  obtain ⟨p,xs,rfl,hp,hxs⟩:=hD.tupI
  obtain ⟨x0,r0,rfl,h0,hr0⟩:=hxs.consI
  have e0:x0 = .str z:=by unfold Dat at h0;exact h0
  subst e0
  refine ⟨_,rfl,p,_,_,_,rfl,rfl,SqT.of hp,(show atI _ ((0:Nat):Int)=_ from z_u rfl),?_⟩
  refine ⟨_,rfl,rfl,_,rfl,?_⟩
  refine z_i (decide_eq_false fun h=>z2 (by injection h)) ⟨_,rfl,rfl,_,rfl,?_⟩
  refine z_i (decide_eq_false fun h=>z3 (by injection h)) ?_
  refine ⟨_,rfl,z,hd,subs,_,rfl,z1,k1,k2,hD0,fun pt ys H1 s1 hpt hys=>?_⟩
  have hyl:=hys.length
  refine ⟨pt,rfl,⟨_,SqT.of hpt⟩,comp_tup (xs:=ys) (fun i zs H'=>∃ (rs:List Addr) (ps:List (Int×Int)),zs=rs.map V.ref/\Same H1 H'/\Paired (fun r (p:Int×Int)=>H' r=some (.tup [.int p.1,.int p.2])) rs ps/\ps.length=i/\ps.map (·.1)=ws.take i/\ps.map (·.2)=us.take i) ⟨[],[],rfl,Same.refl _,.nil,rfl,rfl,rfl⟩ ?_ ?_ ?_ ?_⟩
  ·rintro i zs H' _ ⟨_,_,_,s',_⟩
   exact SqT.of (s' _ _ hpt)
  ·rintro i zs H' hi ⟨rs,ps,rfl,s',hp',hl,_⟩
   rw [List.length_map,Paired.length hp']
   exact y_j (by lia)
  ·rintro i y zs H' hy ⟨rs,ps,rfl,s',hp',hl,m1,m2⟩
   obtain ⟨sd,hsd,hyd⟩:=hys.get hy
   obtain ⟨a,u,ha,hu,hMs⟩:=hms i sd hsd
   unfold tYes
   refine iteT ⟨_,rfl,_,rfl,_,rfl,sd,y,wd,nd,wk,nk,a,u,rfl,hyd.same s',(s1.trans s') _ _ hwd,(s1.trans s') _ _ hnd,hMs,fun t H2 ht s2 ht2=>?_⟩
   refine ⟨rs++[t],ps++[(a,u)],by rw [List.map_append];rfl,s'.trans s2,pairedSn (z_r (fun _ _ q=>s2 _ _ q) hp') (.cons ht2 .nil),by rw [List.length_append,hl];rfl,?_,?_⟩
   ·rw [List.map_append,m1,x_i ha];rfl
   ·rw [List.map_append,m2,x_i hu];rfl
  ·rintro zs H2 ⟨rs,ps,rfl,s2,hp2,hl,m1,m2⟩ l hl2
   have hlw:ys.length=ws.length:=by lia
   rw [hlw] at m1
   rw [hlw,k3] at m2
   rw [List.take_length] at m1 m2
   have s3:=z_d hl2 (.lst (rs.map V.ref))
   have hP3:PrsR (upd H2 l (.lst (rs.map V.ref))) l rs ps:=⟨z_c,z_r (fun _ _ q=>s3 _ _ q) hp2⟩
   have s03:=(s1.trans s2).trans s3
   generalize upd H2 l (.lst (rs.map V.ref))=H3 at hP3 s03 ⊢
   have hps:ps.length<=3:=by have:=congrArg List.length m1;rw [List.length_map] at this;lia
   refine ⟨_,rfl,l,rfl,⟨_,SqL.of hP3.1⟩,comp_prs_map (fun p=>.int p.1) hP3 (by lia) (fun x hx r hr' N hN=>⟨_,rfl,r,_,_,_,rfl,rfl,SqT.of hr',rfl,hN⟩) fun li hli=>?_⟩
   rw [show ps.map (fun p=>V.int p.1)=(ps.map (·.1)).map V.int by rw [List.map_map];rfl,m1]
   have s4:=z_d hli (.lst (ws.map V.int))
   have s04:=s03.trans s4
   have hi4:=z_c (H:=H3) (a:=li) (o:=.lst (ws.map V.int))
   have hP4:=hP3.same s4
   generalize upd H3 li (.lst (ws.map V.int))=H4 at hP4 s04 hi4 ⊢
   refine ⟨_,rfl,l,rfl,⟨_,SqL.of hP4.1⟩,comp_prs_map (fun p=>.int p.2) hP4 (by lia) (fun x hx r hr' N hN=>⟨_,rfl,r,_,_,_,rfl,rfl,SqT.of hr',rfl,hN⟩) fun lu hlu=>?_⟩
   rw [show ps.map (fun p=>V.int p.2)=(ps.map (·.2)).map V.int by rw [List.map_map];rfl,m2]
   have s5:=z_d hlu (.lst (us.map V.int))
   have s05:=s04.trans s5
   have hi5:=s5 _ _ hi4
   have hu5:=z_c (H:=H4) (a:=lu) (o:=.lst (us.map V.int))
   generalize upd H4 lu (.lst (us.map V.int))=H5 at s05 hi5 hu5 ⊢
   refine ⟨_,rfl,_,rfl,z,hd,subs,_,li,ws,us,w,x,rfl,hD0.same s05,hi5,ev,hwb,fun H6 s6=>?_⟩
   have hi6:=s6 _ _ hi5
   have hu6:=s6 _ _ hu5
   have s06:=s05.trans s6
   have hD6:=hD0.same s06
   have fin:∀ H7 t,Same H6 H7->H7 t=none->Q (.ref t) (upd H7 t (.tup [.int w,.int x])):=fun H7 t s7 ht=>q t _ ((s06.trans s7).free ht) ((s06.trans s7).trans (z_d ht _)) z_c
   refine ⟨_,rfl,rfl,_,rfl,?_⟩
   have ev0:=ev
   cases ev with
   | choice a c x y =>
    refine y_k (by decide) ?_
    refine ⟨_,rfl,_,rfl,lu,_,_,_,rfl,rfl,SqL.of hu6,rfl,rfl,_,rfl,?_⟩
    by_cases h:c=1
    ·rw [if_pos h] at fin
     exact y_k (decide_eq_true (by rw [h])) ⟨_,rfl,lu,_,_,_,rfl,rfl,SqL.of hu6,rfl,(by show 2<=sizeLine;decide),fun t ht=>fin _ t (Same.refl _) ht⟩
    ·rw [if_neg h] at fin
     exact z_i (decide_eq_false fun e=>h (by injection e)) ⟨_,rfl,lu,_,_,_,rfl,rfl,SqL.of hu6,rfl,(by show 2<=sizeLine;decide),fun t ht=>fin _ t (Same.refl _) ht⟩
   | join a b x y h =>
    have ha:=hwb a List.mem_cons_self
    refine z_i (by decide) ⟨_,rfl,rfl,_,rfl,?_⟩
    refine y_k (by decide) ?_
    exact ⟨_,rfl,_,rfl,lu,_,_,_,rfl,rfl,SqL.of hu6,rfl,_,rfl,lu,_,_,_,rfl,rfl,SqL.of hu6,rfl,_,rfl,li,_,_,_,rfl,rfl,SqL.of hi6,rfl,a,rfl,by lia,by lia,_,_,rfl,rfl,.inr ⟨Int.lt_trans (by decide) (pow_pos2 _),Int.lt_of_le_of_lt (pow_le2 (by lia)) (by decide)⟩,_,_,rfl,rfl,(by show 2<=sizeLine;decide),fun t ht=>fin _ t (Same.refl _) ht⟩
   | not =>
    refine z_i (by decide) ⟨_,rfl,rfl,_,rfl,?_⟩
    refine z_i (by decide) ?_
    refine ⟨_,rfl,_,_,rfl,.inl ⟨_,SqL.of hu6,rfl⟩,rfl,_,rfl,?_⟩
    refine y_k (by first | rfl | simp) ?_
    exact ⟨_,rfl,_,rfl,_,rfl,_,rfl,lu,_,_,_,rfl,rfl,SqL.of hu6,rfl,_,_,subs,_,_,_,_,_,rfl,hD6,ev0,hwb _ List.mem_cons_self,hw8,fun H7 s7=>⟨(by show 2<=sizeLine;decide),fun t ht=>fin H7 t s7 ht⟩⟩
   | up =>
    refine z_i (by decide) ⟨_,rfl,rfl,_,rfl,?_⟩
    refine z_i (by decide) ?_
    refine ⟨_,rfl,_,_,rfl,.inl ⟨_,SqL.of hu6,rfl⟩,rfl,_,rfl,?_⟩
    refine y_k (by first | rfl | simp) ?_
    exact ⟨_,rfl,_,rfl,_,rfl,_,rfl,lu,_,_,_,rfl,rfl,SqL.of hu6,rfl,_,_,subs,_,_,_,_,_,rfl,hD6,ev0,hwb _ List.mem_cons_self,hw8,fun H7 s7=>⟨(by show 2<=sizeLine;decide),fun t ht=>fin H7 t s7 ht⟩⟩
   | down =>
    refine z_i (by decide) ⟨_,rfl,rfl,_,rfl,?_⟩
    refine z_i (by decide) ?_
    refine ⟨_,rfl,_,_,rfl,.inl ⟨_,SqL.of hu6,rfl⟩,rfl,_,rfl,?_⟩
    refine y_k (by first | rfl | simp) ?_
    exact ⟨_,rfl,_,rfl,_,rfl,_,rfl,lu,_,_,_,rfl,rfl,SqL.of hu6,rfl,_,_,subs,_,_,_,_,_,rfl,hD6,ev0,hwb _ List.mem_cons_self,hw8,fun H7 s7=>⟨(by show 2<=sizeLine;decide),fun t ht=>fin H7 t s7 ht⟩⟩
   | cut =>
    refine z_i (by decide) ⟨_,rfl,rfl,_,rfl,?_⟩
    refine z_i (by decide) ?_
    refine ⟨_,rfl,_,_,rfl,.inl ⟨_,SqL.of hu6,rfl⟩,rfl,_,rfl,?_⟩
    refine y_k (by first | rfl | simp) ?_
    exact ⟨_,rfl,_,rfl,_,rfl,_,rfl,lu,_,_,_,rfl,rfl,SqL.of hu6,rfl,_,_,subs,_,_,_,_,_,rfl,hD6,ev0,hwb _ List.mem_cons_self,hw8,fun H7 s7=>⟨(by show 2<=sizeLine;decide),fun t ht=>fin H7 t s7 ht⟩⟩
   | table =>
    refine z_i (by decide) ⟨_,rfl,rfl,_,rfl,?_⟩
    refine z_i (by decide) ?_
    refine ⟨_,rfl,_,_,rfl,.inl ⟨_,SqL.of hu6,rfl⟩,rfl,_,rfl,?_⟩
    refine y_k (by first | rfl | simp) ?_
    exact ⟨_,rfl,_,rfl,_,rfl,_,rfl,lu,_,_,_,rfl,rfl,SqL.of hu6,rfl,_,_,subs,_,_,_,_,_,rfl,hD6,ev0,hwb _ List.mem_cons_self,hw8,fun H7 s7=>⟨(by show 2<=sizeLine;decide),fun t ht=>fin H7 t s7 ht⟩⟩
   | and =>
    refine z_i (by decide) ⟨_,rfl,rfl,_,rfl,?_⟩
    refine z_i (by decide) ?_
    refine ⟨_,rfl,_,_,rfl,.inl ⟨_,SqL.of hu6,rfl⟩,rfl,_,rfl,?_⟩
    refine z_i (by first | rfl | simp) ?_
    exact ⟨_,rfl,_,rfl,_,rfl,_,rfl,lu,_,_,_,rfl,rfl,SqL.of hu6,rfl,_,rfl,lu,_,_,_,rfl,rfl,SqL.of hu6,rfl,_,_,_,_,_,_,rfl,ev0,by decide,hwb _ List.mem_cons_self,hw8,(by show 2<=sizeLine;decide),fun t ht=>fin _ t (Same.refl _) ht⟩
   | or =>
    refine z_i (by decide) ⟨_,rfl,rfl,_,rfl,?_⟩
    refine z_i (by decide) ?_
    refine ⟨_,rfl,_,_,rfl,.inl ⟨_,SqL.of hu6,rfl⟩,rfl,_,rfl,?_⟩
    refine z_i (by first | rfl | simp) ?_
    exact ⟨_,rfl,_,rfl,_,rfl,_,rfl,lu,_,_,_,rfl,rfl,SqL.of hu6,rfl,_,rfl,lu,_,_,_,rfl,rfl,SqL.of hu6,rfl,_,_,_,_,_,_,rfl,ev0,by decide,hwb _ List.mem_cons_self,hw8,(by show 2<=sizeLine;decide),fun t ht=>fin _ t (Same.refl _) ht⟩
   | odd =>
    refine z_i (by decide) ⟨_,rfl,rfl,_,rfl,?_⟩
    refine z_i (by decide) ?_
    refine ⟨_,rfl,_,_,rfl,.inl ⟨_,SqL.of hu6,rfl⟩,rfl,_,rfl,?_⟩
    refine z_i (by first | rfl | simp) ?_
    exact ⟨_,rfl,_,rfl,_,rfl,_,rfl,lu,_,_,_,rfl,rfl,SqL.of hu6,rfl,_,rfl,lu,_,_,_,rfl,rfl,SqL.of hu6,rfl,_,_,_,_,_,_,rfl,ev0,by decide,hwb _ List.mem_cons_self,hw8,(by show 2<=sizeLine;decide),fun t ht=>fin _ t (Same.refl _) ht⟩
   | sum =>
    refine z_i (by decide) ⟨_,rfl,rfl,_,rfl,?_⟩
    refine z_i (by decide) ?_
    refine ⟨_,rfl,_,_,rfl,.inl ⟨_,SqL.of hu6,rfl⟩,rfl,_,rfl,?_⟩
    refine z_i (by first | rfl | simp) ?_
    exact ⟨_,rfl,_,rfl,_,rfl,_,rfl,lu,_,_,_,rfl,rfl,SqL.of hu6,rfl,_,rfl,lu,_,_,_,rfl,rfl,SqL.of hu6,rfl,_,_,_,_,_,_,rfl,ev0,by decide,hwb _ List.mem_cons_self,hw8,(by show 2<=sizeLine;decide),fun t ht=>fin _ t (Same.refl _) ht⟩
   | less =>
    refine z_i (by decide) ⟨_,rfl,rfl,_,rfl,?_⟩
    refine z_i (by decide) ?_
    refine ⟨_,rfl,_,_,rfl,.inl ⟨_,SqL.of hu6,rfl⟩,rfl,_,rfl,?_⟩
    refine z_i (by first | rfl | simp) ?_
    exact ⟨_,rfl,_,rfl,_,rfl,_,rfl,lu,_,_,_,rfl,rfl,SqL.of hu6,rfl,_,rfl,lu,_,_,_,rfl,rfl,SqL.of hu6,rfl,_,_,_,_,_,_,rfl,ev0,by decide,hwb _ List.mem_cons_self,hw8,(by show 2<=sizeLine;decide),fun t ht=>fin _ t (Same.refl _) ht⟩
   | under =>
    refine z_i (by decide) ⟨_,rfl,rfl,_,rfl,?_⟩
    refine z_i (by decide) ?_
    refine ⟨_,rfl,_,_,rfl,.inl ⟨_,SqL.of hu6,rfl⟩,rfl,_,rfl,?_⟩
    refine z_i (by first | rfl | simp) ?_
    exact ⟨_,rfl,_,rfl,_,rfl,_,rfl,lu,_,_,_,rfl,rfl,SqL.of hu6,rfl,_,rfl,lu,_,_,_,rfl,rfl,SqL.of hu6,rfl,_,_,_,_,_,_,rfl,ev0,by decide,hwb _ List.mem_cons_self,hw8,(by show 2<=sizeLine;decide),fun t ht=>fin _ t (Same.refl _) ht⟩
   | same =>
    refine z_i (by decide) ⟨_,rfl,rfl,_,rfl,?_⟩
    refine z_i (by decide) ?_
    refine ⟨_,rfl,_,_,rfl,.inl ⟨_,SqL.of hu6,rfl⟩,rfl,_,rfl,?_⟩
    refine z_i (by first | rfl | simp) ?_
    exact ⟨_,rfl,_,rfl,_,rfl,_,rfl,lu,_,_,_,rfl,rfl,SqL.of hu6,rfl,_,rfl,lu,_,_,_,rfl,rfl,SqL.of hu6,rfl,_,_,_,_,_,_,rfl,ev0,by decide,hwb _ List.mem_cons_self,hw8,(by show 2<=sizeLine;decide),fun t ht=>fin _ t (Same.refl _) ht⟩
theorem ok_worth(T:Tx w K mg A)(G_measured:FnOk P w K mg base CX0 9 A.a_measured A.d_measured ["saying", "widths", "numbers"] (sp_meas 6)):FnOk P w K mg base CX0 10 A.a_worth A.d_worth ["saying", "widths", "numbers"] (sp_worth 6):=by
 refine T.F_worth.ok sc_worth (fun vs H Q E h=>?_) (fun cdv A' outer s H vs Q E hr h=>?_)
 ·obtain ⟨d,v,wd,nd,wk,nk,w,x,rfl,hD,hwd,hnd,hM,q⟩:=h
  rfl
 obtain ⟨d,v,wd,nd,wk,nk,w,x,rfl,hD,hwd,hnd,hM,q⟩:=h
 refine ⟨_,(z_h (z_v (z_m z_w (z_l G_measured (hr.mono (by first | decide | lia)) rfl T.M_measured T.F_measured.kp T.B_measured .nil pass0 (z_a (pv 0) (z_a (pv 1) (z_a (pv 2) z_e)))) z_f (fun _ _=>rfl)))),?_⟩
 exact ⟨_,rfl,_,rfl,_,rfl,d,v,wd,nd,wk,nk,w,x,rfl,hD,hwd,hnd,hM,fun p H' hp s' hp'=>⟨p,_,_,_,rfl,rfl,SqT.of hp',rfl,q H' s'⟩⟩
theorem ok_run_plan(T:Tx w K mg A)(G_spread:FnOk P w K mg base CX0 11 A.a_spread A.d_spread ["plan"] sp_spread15)(G_order_of:FnOk P w K mg base CX0 3 A.a_order_of A.d_order_of ["rows"] sp_order)(G_worth:FnOk P w K mg base CX0 10 A.a_worth A.d_worth ["saying", "widths", "numbers"] (sp_worth 6)):FnOk P w K mg base CX0 12 A.a_run_plan A.d_run_plan ["plan", "beats"] sp_run15:=by
 refine T.F_run_plan.ok sc_run_plan (fun vs H Q E h=>?_) (fun cdv A' outer s H vs Q E hr h=>?_)
 ·obtain ⟨P,pl,pa,bt,rs,bs,rfl,ok,hpl,hD,hB,hI,h12,q⟩:=h
  rfl
 obtain ⟨P,pl,pa,bt,rs,bs,rfl,ok,hpl,hD,hB,hI,h12,q⟩:=h
 have hu:=hu_of hr
 refine ⟨_,(z_b (z_p (i:=2) sc_run_plan.nd rfl (Or.inl rfl) (z_l G_spread (hr.mono (by first | decide | lia)) rfl T.M_spread T.F_spread.kp T.B_spread .nil pass0 (z_a (pv 0) z_e)))
  (z_b (z_p (i:=3) sc_run_plan.nd rfl (Or.inl rfl) (z_m z_w (pv 2) z_f (fun _ _=>rfl)))
  (z_b (z_p (i:=4) sc_run_plan.nd rfl (Or.inr rfl) (y_i (call_dicK rfl) rfl T.dict PyProof.Rows.boot_dict (z_a (z_m z_w (pv 2) z_f (fun _ _=>rfl)) z_e)))
  (z_b (z_p (i:=5) sc_run_plan.nd rfl (Or.inl rfl) pe_dnewK)
  (z_b (ps_for PassesOwn.never rfl (y_r (pv 3)) (y_g (i:=6) sc_run_plan.nd rfl (Or.inl rfl))
    (z_b (ps_dput hu (pv 4) (z_m z_w (pv 6) z_f (fun _ _=>rfl)) (z_m z_w (pv 6) z_f (fun _ _=>rfl)) rfl)
  (z_h (ps_dput hu (pv 5) (z_m z_w (pv 6) z_f (fun _ _=>rfl)) (z_m z_w (pv 6) (pe_un un_neg z_f) (fun _ _=>rfl)) rfl))))
  (z_b (z_p (i:=7) sc_run_plan.nd rfl (Or.inl rfl) (z_l G_order_of (hr.mono (by first | decide | lia)) rfl T.M_order_of T.F_order_of.kp T.B_order_of .nil pass0 (z_a (pv 3) z_e)))
  (z_b (ps_comp [] sc_run_plan.nd (i:=8) rfl (Or.inl rfl) (fun _ _ h=>h) rfl (y_r (pv 3)) (fun _ _ _ _=>(pts_one (z_q x_e (z_m (ix_tupK (K:=K) rfl) (pv 0) z_f (fun _ _=>rfl)) z_z (nomark _)))) (fun _ _ _ _=>(pv 0)) rfl (show ∀ j∈([]:List Nat),j<16 by decide) (show (["row"]:List Str).Nodup by decide +kernel) (by with_unfolding_all rfl))
  (z_b (z_p (i:=9) sc_run_plan.nd rfl (Or.inl rfl) (y_i (call_dicK rfl) rfl T.dict PyProof.Rows.boot_dict (z_a (pe_comp [] (fun _ _ h=>h) rfl (y_r (pv 8)) (fun _ _ _ _=>y_s) (fun _ _ _ _=>(y_v (z_a (z_m (ix_tupK (K:=K) rfl) (pv 0) z_f (fun _ _=>rfl)) (z_a (z_m (ix_tupK (K:=K) rfl) (pv 0) z_f (fun _ _=>rfl)) z_e)))) rfl (show ∀ j∈([]:List Nat),j<16 by decide) (show (["row"]:List Str).Nodup by decide +kernel)) z_e)))
  (z_b (z_p (i:=10) sc_run_plan.nd rfl (Or.inl rfl) (pe_lst z_e))
  (z_b (ps_for PassesOwn.never rfl (y_r (pv 1)) (y_g (i:=11) sc_run_plan.nd rfl (Or.inl rfl))
    (z_b (z_p (i:=12) sc_run_plan.nd rfl (Or.inr rfl) (y_i call_dict_rd rfl T.dict PyProof.Rows.boot_dict (z_a (pv 9) z_e)))
  (z_b (ps_for PassesOwn.never rfl (pi_zip rfl T.zip (z_a (z_m z_w (pv 2) z_f (fun _ _=>rfl)) (z_a (pv 11) z_e))) (pg_tup rfl (pgs_cons (y_g (i:=13) sc_run_plan.nd rfl (Or.inl rfl)) (pgs_cons (y_g (i:=14) sc_run_plan.nd rfl (Or.inl rfl)) pgs_nil)))
    (z_h (ps_dput hu (pv 12) (z_m z_w (pv 13) z_f (fun _ _=>rfl)) (pv 14) rfl)))
  (z_b (ps_for PassesOwn.never rfl (y_r (pv 7)) (y_g (i:=15) sc_run_plan.nd rfl (Or.inl rfl))
    (z_h x_f))
  (z_b (ps_expr (pe_bm PySem.F.plainAttrs_list PySem.F.slot_list_append PySem.F.type_list_append mt_append (pv 10) (z_a (pe_comp [12] (fun _ _ h=>h) rfl (y_r (z_m z_w (pv 2) z_f (fun _ _=>rfl))) (fun _ _ _ _=>y_s) (fun _ _ _ _=>(pe_dget hu (pv 1) (z_m (ix_tupK (K:=K) rfl) (pv 0) z_f (fun _ _=>rfl)) (fun _ _=>rfl))) rfl (show ∀ j∈([12]:List Nat),j<16 by decide) (show (["port", "now"]:List Str).Nodup by decide +kernel)) z_e)))
  (z_h (z_p (i:=9) sc_run_plan.nd rfl (Or.inl rfl) (y_i (call_dicK rfl) rfl T.dict PyProof.Rows.boot_dict (z_a (pe_comp [4,12] (fun _ _ h=>h) rfl (y_r (pv 8)) (fun _ _ _ _=>y_s) (fun _ _ _ _=>(y_v (z_a (z_m (ix_tupK (K:=K) rfl) (pv 0) z_f (fun _ _=>rfl)) (z_a (z_l G_worth (hr.mono (by first | decide | lia)) rfl T.M_worth T.F_worth.kp T.B_worth .nil pass0 (z_a (z_m (ix_tupK (K:=K) rfl) (pv 0) z_f (fun _ _=>rfl)) (z_a (pv 1) (z_a (pv 2) z_e)))) z_e)))) rfl (show ∀ j∈([4,12]:List Nat),j<16 by decide) (show (["row", "widths", "now"]:List Str).Nodup by decide +kernel)) z_e)))))))))
  (z_h (z_v (pv 10))))))))))))),?_⟩
 have i3:=ok.hi
 have b8:=ok.hb
 have o8:=ok.ol
 have rl:=ok.rl
 refine ⟨_,rfl,P,pl,pa,rfl,ok,hpl,hD,fun t l1 l2 l3 x1 x2 x3 H1 s1 hf g0 g1 g2 g3 D1 D2 D3=>?_⟩
 obtain ⟨f1,f2,f3⟩:=hf
 have hx3:=D3.length
 rw [List.length_map] at hx3
 have hx2:=D2.length
 rw [List.length_map] at hx2
 refine ⟨_,rfl,t,_,_,_,rfl,rfl,SqT.of g0,rfl,?_⟩
 obtain ⟨r1,rfl,pr1⟩:=Bx.doors_prs (P:=P) (js:=List.range P.I) D1
 have hr1:=Paired.length pr1
 rw [List.length_map,List.length_range] at hr1
 refine ⟨_,rfl,t,_,_,_,rfl,rfl,SqT.of g0,rfl,l1,r1,_,rfl,g1,pr1,(by rw [List.length_map,List.length_range];lia),fun dw hdw=>?_⟩
 have w0:=ok.wdt0
 have wl0:(ptK ((List.range P.I).map fun j=>((.inr (P.n j):Key),V.int P.W))).length<=3:=Nat.le_trans (ptK_len _) (by rw [List.length_map,List.length_range];lia)
 generalize ptK ((List.range P.I).map fun j=>((.inr (P.n j):Key),V.int P.W))=wk0 at w0 wl0 ⊢
 have t2:=z_d hdw (.dK wk0)
 have gw:=z_c (H:=H1) (a:=dw) (o:=.dK wk0)
 dsimp only [gName]
 generalize upd H1 dw (.dK wk0)=H2 at t2 gw ⊢
 intro dz hdz
 have t3:=t2.trans (z_d hdz (.dK []))
 have gw3:=z_d hdz (.dK []) _ _ gw
 have gz:=z_c (H:=H2) (a:=dz) (o:=.dK [])
 have hdz1:H1 dz=none:=t2.free hdz
 have nwz:dw≠dz:=fun z=>by rw [<-z,gw] at hdz;cases hdz
 dsimp only [gName]
 generalize upd H2 dz (.dK [])=H3 at t3 gw3 gz ⊢
 refine ⟨_,rfl,l3,rfl,⟨_,SqL.of (t3 _ _ g3)⟩,for_list (xs:=x3) (fun i σ H'=>∃ (x:Option V) (wk sk:List (Key×V)),σ=[some (.ref pl),some (.ref bt),some (.ref t),some (.ref l3),some (.ref dw),some (.ref dz),x,none,none,none,none,none,none,none,none,none]/\Same H1 H'/\H' dw=some (.dK wk)/\H' dz=some (.dK sk)/\P.Wdt wk (P.ord.take i)/\wk.length<=3+i/\sk.length<=i) ⟨_,wk0,[],rfl,t3,gw3,gz,w0,wl0,Nat.le_refl _⟩ ?_ ?_ ?_⟩
 ·rintro i σ H' _ ⟨_,_,_,rfl,s',_⟩
  exact SqL.of (s' _ _ g3)
 ·rintro i v σ H' hv ⟨x,wk,sk,rfl,s',fw,fz,hw,hwl,hsl⟩
  obtain ⟨dr,hdr,hvd⟩:=D3.get hv
  rw [List.getElem?_map] at hdr
  obtain ⟨k,hk,rfl⟩:=Option.map_eq_some_iff.mp hdr
  have hi:i<x3.length:=(List.getElem?_eq_some_iff.mp hv).1
  obtain ⟨rr,sv,rfl,hr,hs⟩:=Bx.row_at (hvd.same s')
  refine ⟨_,rfl,rr,_,_,_,rfl,rfl,SqT.of hr,rfl,_,rfl,_,rfl,rr,_,_,_,rfl,rfl,SqT.of hr,rfl,dw,_,rfl,DPut.k (k:=.inr (P.n (P.I+k))) fw (y_j (by lia)),?_⟩
  have u1:Same H1 (upd H' dw (.dK (putK wk (.inr (P.n (P.I+k))) (.int P.W)))):=sameUpd s' hdw _
  have v1:=z_c (H:=H') (a:=dw) (o:=.dK (putK wk (.inr (P.n (P.I+k))) (.int P.W)))
  have v2:(upd H' dw (.dK (putK wk (.inr (P.n (P.I+k))) (.int P.W)))) dz=some (.dK sk):=by rw [z_s nwz.symm];exact fz
  have v3:(upd H' dw (.dK (putK wk (.inr (P.n (P.I+k))) (.int P.W)))) rr=some (.tup [.str "box",.str (P.n (P.I+k)),.int P.W,.int (P.f k),sv]):=by rw [z_s (fun z=>by rw [z,fw] at hr;cases hr)];exact hr
  generalize upd H' dw (.dK (putK wk (.inr (P.n (P.I+k))) (.int P.W)))=H4 at u1 v1 v2 v3 ⊢
  refine ⟨_,rfl,_,rfl,rr,_,_,_,rfl,rfl,SqT.of v3,rfl,_,rfl,_,rfl,rr,_,_,_,rfl,rfl,SqT.of v3,rfl,dz,_,rfl,DPut.k (k:=.inr (P.n (P.I+k))) v2 (y_j (by lia)),?_⟩
  have z1:=x_d wk (.inr (P.n (P.I+k))) (V.int P.W)
  have z2:=x_d sk (.inr (P.n (P.I+k))) sv
  refine ⟨_,_,_,rfl,sameUpd u1 hdz1 _,by rw [z_s nwz];exact v1,z_c,?_,by lia,by lia⟩
  rw [x_i hk]
  exact hw.put k
 rintro σ H4 ⟨x,wk,sk,rfl,s4,fw,fz,hw,hwl,hsl⟩
 rw [<-hx3,List.take_length] at hw
 have hW:=ok.wid hw
 refine ⟨_,rfl,P,l3,x3,rfl,ok,s4 _ _ g3,D3.same s4,fun po H5 hpo t5 go=>?_⟩
 have s5:=s4.trans t5
 have fw5:=t5 _ _ fw
 refine ⟨_,rfl,l3,rfl,⟨_,SqL.of (s5 _ _ g3)⟩,comp_list (xs:=x3) (fun i ys H'=>ys=x3.take i/\H5=H') ⟨rfl,rfl⟩ ?_ ?_ ?_ ?_⟩
 ·rintro i ys H' _ ⟨_,rfl⟩
  exact SqL.of (s5 _ _ g3)
 ·rintro i ys H' hi ⟨rfl,_⟩
  rw [List.length_take]
  exact y_j (by lia)
 ·rintro i v ys H' hv ⟨rfl,rfl⟩
  obtain ⟨dr,hdr,hvd⟩:=D3.get hv
  rw [List.getElem?_map] at hdr
  obtain ⟨k,hk,rfl⟩:=Option.map_eq_some_iff.mp hdr
  obtain ⟨rr,sv,rfl,hr,hs⟩:=Bx.row_at (hvd.same s5)
  refine ⟨_,rfl,rr,_,_,_,rfl,rfl,SqT.of hr,rfl,rfl,_,rfl,?_⟩
  refine y_k (by decide) ?_
  exact ⟨_,rfl,(x_i hv).symm,rfl⟩
 rintro ys H' ⟨rfl,rfl⟩ pb hpb
 rw [List.take_length]
 have t6:=z_d hpb (.lst x3)
 have gb:=z_c (H:=H5) (a:=pb) (o:=.lst x3)
 have s6:=s5.trans t6
 have fw6:=t6 _ _ fw5
 have go6:=t6 _ _ go
 dsimp only [gName]
 generalize upd H5 pb (.lst x3)=H6 at t6 gb s6 fw6 go6 ⊢
 have D36:=D3.same s6
 refine ⟨_,rfl,pb,rfl,⟨_,SqL.of gb⟩,comp_new (xs:=x3) P.ord (fun k=>.tup [.str (P.n (P.I+k)),.int (P.f k)]) (SqL.of gb) (by lia) (by lia) (fun i v k H' hv hk s' N hN=>?_) fun rt H7 t7 _ pr7 p7 hp7=>?_⟩
 ·obtain ⟨dr,hdr,hvd⟩:=D36.get hv
  rw [List.getElem?_map,hk] at hdr
  cases hdr
  obtain ⟨rr,sv,rfl,hr,hs⟩:=Bx.row_at (hvd.same s')
  exact ⟨_,rfl,rr,_,_,_,rfl,rfl,SqT.of hr,rfl,_,rfl,rr,_,_,_,rfl,rfl,SqT.of hr,rfl,(by show 2<=sizeLine;decide),fun u hu=>hN u _ hu (z_d hu _) z_c⟩
 have e7:∀ {H':Hp} {rt:List Addr} {ks:List Nat} {g:Nat->Int},Paired (fun r k=>H' r=some (.tup [.str (P.n (P.I+k)),.int (g k)])) rt ks->Paired (PrK H') rt (ks.map fun k=>((.inr (P.n (P.I+k)):Key),V.int (g k))):=fun {H' rt ks g} h=>by
  induction h with
  | nil=>exact .nil
  | cons a b ih=>exact .cons a ih
 have t8:=t7.trans (z_d hp7 (.lst (rt.map V.ref)))
 have g8:=z_c (H:=H7) (a:=p7) (o:=.lst (rt.map V.ref))
 have pr8:=e7 (g:=P.f) (z_r (fun r _ h=>z_d hp7 (.lst (rt.map V.ref)) r _ h) pr7)
 generalize upd H7 p7 (.lst (rt.map V.ref))=H8 at t8 g8 pr8 ⊢
 refine ⟨p7,rt,_,rfl,g8,pr8,(by rw [List.length_map];lia),fun ds hds=>?_⟩
 have hS0:=ok.std (g:=P.f) (st:=P.fs) (fun k _=>rfl)
 have kl0:(ptK (P.ord.map fun k=>((.inr (P.n (P.I+k)):Key),V.int (P.f k)))).length<=8:=Nat.le_trans (ptK_len _) (by rw [List.length_map];lia)
 generalize ptK (P.ord.map fun k=>((.inr (P.n (P.I+k)):Key),V.int (P.f k)))=kv0 at hS0 kl0 ⊢
 have t9:=t8.trans (z_d hds (.dK kv0))
 have g9:=z_c (H:=H8) (a:=ds) (o:=.dK kv0)
 dsimp only [gName]
 generalize upd H8 ds (.dK kv0)=H9 at t9 g9 ⊢
 have S9:=s6.trans t9
 refine ⟨(by show 0<=sizeLine;decide),fun pt hpt=>?_⟩
 have hptH:H pt=none:=(s1.trans S9).free hpt
 have t10:=z_d hpt (.lst [])
 have g10:=z_c (H:=H9) (a:=pt) (o:=.lst [])
 have gd10:=t10 _ _ g9
 dsimp only [gName]
 generalize upd H9 pt (.lst [])=H10 at t10 g10 gd10 ⊢
 have s09:=s1.trans S9
 have hB9:=hB.same s09
 have lB:=hB.length
 refine ⟨_,rfl,bt,rfl,⟨_,SqL.of (t10 _ _ hB9.1)⟩,for_list (xs:=rs.map V.ref) (fun i σ H'=>∃ (ds:Addr) (kvs:List (Key×V)) (ts:List Addr) (y1 y2 y3 y4 y5:Option V),σ=[some (.ref pl),some (.ref bt),some (.ref t),some (.ref l3),some (.ref dw),some (.ref dz),x,some (.ref po),some (.ref pb),some (.ref ds),some (.ref pt),y1,y2,y3,y4,y5]/\Same H9 H'/\H' pt=some (.lst (ts.map V.ref))/\Pw H' ts (P.run P.fs (bs.take i)).2/\(∀ u∈ts,H u=none/\u≠pt)/\H' ds=some (.dK kvs)/\P.Std kvs (P.run P.fs (bs.take i)).1/\kvs.length<=8) ⟨ds,kv0,[],_,_,_,_,_,rfl,t10,g10,.nil,(fun _ h=>nomatch h),gd10,hS0,kl0⟩ ?_ ?_ ?_⟩
 ·rintro i σ H' _ ⟨_,_,_,_,_,_,_,_,_,s',_⟩
  exact SqL.of (s' _ _ hB9.1)
 ·rintro i v σ H' hv ⟨ds,kvs,ts,y1,y2,y3,y4,y5,rfl,s',fp,hts,hfr,fd,hst,hk8⟩
  have hi:i<bs.length:=by have:=(List.getElem?_eq_some_iff.mp hv).1;rw [List.length_map] at this;lia
  rw [List.getElem?_map] at hv
  obtain ⟨rb,hrb,rfl⟩:=Option.map_eq_some_iff.mp hv
  obtain ⟨g,hg,hrg⟩:=pairedGet (hB9.same s').2 hrb
  have hgI:=hI g (List.mem_of_getElem? hg)
  have tl:=Paired.length hts
  rw [P.run_len,List.length_take] at tl
  have SS:=S9.trans s'
  refine ⟨_,rfl,ds,kvs,rfl,.inl fd,fun dn hdn=>?_⟩
  have u1:=z_d hdn (.dK kvs)
  have gn:=z_c (H:=H') (a:=dn) (o:=.dK kvs)
  dsimp only [gName]
  generalize upd H' dn (.dK kvs)=J1 at u1 gn ⊢
  have U1:=SS.trans u1
  refine ⟨_,rfl,t,_,_,_,rfl,rfl,SqT.of (U1 _ _ g0),rfl,_,rfl,l1,rb,rfl,⟨_,SqL.of (U1 _ _ g1)⟩,⟨_,SqL.of (u1 _ _ hrg)⟩,for_zip (xs:=r1.map V.ref) (ys:=g.map V.int) (fun j σ J=>∃ (kn:List (Key×V)) (y3 y4:Option V),σ=[some (.ref pl),some (.ref bt),some (.ref t),some (.ref l3),some (.ref dw),some (.ref dz),x,some (.ref po),some (.ref pb),some (.ref ds),some (.ref pt),some (.ref rb),some (.ref dn),y3,y4,y5]/\Same H' J/\J dn=some (.dK kn)/\P.Prt kn (P.run P.fs (bs.take i)).1 g j/\kn.length<=kvs.length+j) ⟨kvs,_,_,rfl,u1,gn,⟨hst,fun j hj=>absurd hj (Nat.not_lt_zero _)⟩,Nat.le_refl _⟩ ?_ (by rw [List.length_map,List.length_map,hr1,hgI]) ?_ ?_⟩
  ·rintro j σ J ⟨kn,y3,y4,rfl,sj,_⟩
   exact ⟨SqL.of (sj _ _ (SS _ _ g1)),SqL.of (sj _ _ hrg)⟩
  ·rintro j xx yy pp σ J hxx hyy ⟨kn,y3,y4,rfl,sj,gj,hP,hkl⟩ hpp
   have hj:j<P.I:=by have:=(List.getElem?_eq_some_iff.mp hxx).1;rw [List.length_map] at this;lia
   rw [List.getElem?_map] at hxx hyy
   obtain ⟨ra,hra,rfl⟩:=Option.map_eq_some_iff.mp hxx
   obtain ⟨e,he,rfl⟩:=Option.map_eq_some_iff.mp hyy
   obtain ⟨kv,hkv,hrd⟩:=pairedGet pr1 hra
   rw [List.getElem?_map,List.getElem?_range hj] at hkv
   cases hkv
   have eg:g.getD j 0=e:=by rw [List.getD_eq_getElem?_getD,he];rfl
   have v1:=z_d hpp (.tup [.ref ra,.int e])
   refine ⟨pp,_,rfl,SqT.of z_c,rfl,_,_,rfl,_,_,rfl,rfl,?_⟩
   have hrd2:H1 ra=some (.tup [.str (P.n j),.int P.W]):=hrd
   refine ⟨_,rfl,_,rfl,_,rfl,ra,_,_,_,rfl,rfl,SqT.of (v1 _ _ (sj _ _ (SS _ _ hrd2))),rfl,dn,_,rfl,DPut.k (k:=.inr (P.n j)) (v1 _ _ gj) ?_,?_⟩
   ·exact y_j (by lia)
   ·have z2:=x_d kn (.inr (P.n j)) (V.int e)
    refine ⟨_,_,_,rfl,sameUpd (sj.trans v1) hdn _,z_c,?_,by lia⟩
    rw [<-eg]
    exact ok.prt_put hP hj
  ·rintro σ J ⟨kn,y3',y4',rfl,sj,gj,hP,hkl⟩
   rw [List.length_map,hr1] at hP
   have hN:=hP.num hgI
   have esn:=P.run_snoc (st:=P.fs) hg
   have lst:=P.st_len P.fs ok.fl (bs.take i)
   generalize hRun:P.run P.fs (bs.take i)=R at hts hst hP hN esn lst
   have JJ:=SS.trans sj
   have go9:=sj _ _ (s' _ _ (t9 _ _ go6))
   refine ⟨_,rfl,po,rfl,⟨_,SqL.of go9⟩,for_list (xs:=[]) (fun _ σ J'=>σ=[some (.ref pl),some (.ref bt),some (.ref t),some (.ref l3),some (.ref dw),some (.ref dz),x,some (.ref po),some (.ref pb),some (.ref ds),some (.ref pt),some (.ref rb),some (.ref dn),y3',y4',y5]/\J=J') ⟨rfl,rfl⟩ ?_ ?_ ?_⟩
   ·rintro j σ J' _ ⟨rfl,rfl⟩
    exact SqL.of go9
   ·rintro j v σ J' hv _
    simp at hv
   rintro σ J' ⟨rfl,rfl⟩
   have fpJ:=sj _ _ fp
   have D2J:=D2.same JJ
   have tl2:=P.told_len (g++R.1)
   refine ⟨_,rfl,.inl ⟨rfl,_,SqL.of fpJ⟩,_,rfl,t,_,_,_,rfl,rfl,SqT.of (JJ _ _ g0),rfl,l2,rfl,⟨_,SqL.of (JJ _ _ g2)⟩,comp_list (xs:=x2) (fun j ys J'=>ys=((P.told (g++R.1)).take j).map V.int/\J=J') ⟨rfl,rfl⟩ ?_ ?_ ?_ ?_⟩
   ·rintro j ys J' _ ⟨_,rfl⟩
    exact SqL.of (JJ _ _ g2)
   ·rintro j ys J' hj ⟨rfl,_⟩
    rw [List.length_map,List.length_take]
    exact y_j (by lia)
   ·rintro j v ys J' hv ⟨rfl,rfl⟩
    obtain ⟨dr,hdr,hvd⟩:=D2J.get hv
    rw [List.getElem?_map] at hdr
    obtain ⟨k,hk,rfl⟩:=Option.map_eq_some_iff.mp hdr
    obtain ⟨rr,rfl,hr⟩:=Bx.door_at hvd
    have hto:(P.told (g++R.1))[j]? = some ((g++R.1).getD k 0):=by unfold Bx.told;rw [List.getElem?_map,hk];rfl
    unfold tYes
    refine iteT ⟨_,rfl,_,rfl,rr,_,_,_,rfl,rfl,SqT.of hr,rfl,dn,_,rfl,dget gj (hN k (ok.oo k (List.mem_of_getElem? hk))),?_⟩
    refine ⟨?_,rfl⟩
    rw [x_i hto,List.map_append]
    rfl
   rintro ys J' ⟨rfl,rfl⟩ pv hpv
   rw [<-hx2,<-tl2,List.take_length]
   have v1:=z_d hpv (.lst ((P.told (g++R.1)).map V.int))
   have w1:=z_c (H:=J) (a:=pv) (o:=.lst ((P.told (g++R.1)).map V.int))
   generalize upd J pv (.lst ((P.told (g++R.1)).map V.int))=J1' at v1 w1 ⊢
   have fpJ1:=v1 _ _ fpJ
   have npv:pv≠pt:=fun z=>by rw [z,fpJ] at hpv;cases hpv
   refine ⟨pt,_,_,rfl,rfl,fpJ1,y_j (by rw [List.length_map];lia),?_⟩
   have kp:∀ b o,b≠pt->J1' b=some o->(upd J1' pt (.lst (ts.map V.ref++[.ref pv]))) b=some o:=fun b o n e=>by rw [z_s n];exact e
   have f2':=z_c (H:=J1') (a:=pt) (o:=.lst (ts.map V.ref++[.ref pv]))
   have S2:Same H9 (upd J1' pt (.lst (ts.map V.ref++[.ref pv]))):=sameUpd (s'.trans (sj.trans v1)) hpt _
   have P2:Pw (upd J1' pt (.lst (ts.map V.ref++[.ref pv]))) (ts++[pv]) (R.2++[P.told (g++R.1)]):=pairedSn (pairedMem (fun a b m h=>kp a _ (hfr a m).2 (v1 _ _ (sj _ _ h))) hts) (.cons (kp pv _ npv w1) .nil)
   have gn2:=kp dn _ (fun z=>by rw [z,fpJ] at gj;cases gj) (v1 _ _ gj)
   dsimp only [gName]
   generalize upd J1' pt (.lst (ts.map V.ref++[.ref pv]))=J2 at f2' S2 P2 gn2 ⊢
   have SJ2:=S9.trans S2
   have D3J:=D3.same SJ2
   have gbJ:=S2 _ _ (t9 _ _ gb)
   have fwJ:=S2 _ _ (t9 _ _ fw6)
   refine ⟨_,rfl,pb,rfl,⟨_,SqL.of gbJ⟩,comp_new (xs:=x3) P.ord (fun k=>.tup [.str (P.n (P.I+k)),.int (P.nx (g++R.1) k)]) (SqL.of gbJ) (by lia) (by lia) (fun j v k J' hv hk sJ N hNx=>?_) fun rt2 J3 u3 _ pr3 p3 hp3=>?_⟩
   ·obtain ⟨dr,hdr,hvd⟩:=D3J.get hv
    rw [List.getElem?_map,hk] at hdr
    cases hdr
    obtain ⟨rr,sv,rfl,hr,hs⟩:=Bx.row_at (hvd.same sJ)
    exact ⟨_,rfl,rr,_,_,_,rfl,rfl,SqT.of hr,rfl,_,rfl,rr,_,_,_,rfl,rfl,SqT.of hr,rfl,_,rfl,_,rfl,P.say k,sv,dw,dn,wk,kn,P.W,P.nx (g++R.1) k,rfl,hs,sJ _ _ fwJ,sJ _ _ gn2,ok.ms hW hN (ok.ro k (List.mem_of_getElem? hk)),fun J'' sJ2=>⟨(by show 2<=sizeLine;decide),fun u hu=>hNx u _ (sJ2.free hu) (sJ2.trans (z_d hu _)) z_c⟩⟩
   have t8':=u3.trans (z_d hp3 (.lst (rt2.map V.ref)))
   have g8':=z_c (H:=J3) (a:=p3) (o:=.lst (rt2.map V.ref))
   have pr8':=e7 (g:=P.nx (g++R.1)) (z_r (fun r _ h=>z_d hp3 (.lst (rt2.map V.ref)) r _ h) pr3)
   generalize upd J3 p3 (.lst (rt2.map V.ref))=J4 at t8' g8' pr8' ⊢
   refine ⟨p3,rt2,_,rfl,g8',pr8',(by rw [List.length_map];lia),fun dq hdq=>?_⟩
   have z9:=t8'.trans (z_d hdq (.dK (ptK (P.ord.map fun k=>((.inr (P.n (P.I+k)):Key),V.int (P.nx (g++R.1) k))))))
   have hnr:∀ u∈ts++[pv],H u=none/\u≠pt:=fun u hu=>by
    rcases List.mem_append.mp hu with z | z
    ·exact hfr u z
    ·rw [List.mem_singleton.mp z]
     exact ⟨(s09.trans (s'.trans sj)).free hpv,npv⟩
   refine ⟨dq,_,ts++[pv],_,_,_,_,_,rfl,S2.trans z9,by rw [List.map_append];exact z9 _ _ f2',?_,hnr,z_c,?_,Nat.le_trans (ptK_len _) (by rw [List.length_map];lia)⟩
   ·rw [esn]
    exact z_r (fun _ _ h=>z9 _ _ h) P2
   ·rw [esn]
    exact ok.std (g:=P.nx (g++R.1)) (fun k hk=>map_range_getD hk)
 rintro σ H11 ⟨ds,kvs,ts,y1,y2,y3,y4,y5,rfl,s',fp,hts,hfr,fd,hst,hk8⟩
 rw [List.length_map,lB,List.take_length] at hts
 exact ⟨_,rfl,q pt ts _ hptH hfr (s09.trans s') ⟨fp,hts⟩⟩
theorem ok_L_bag(T:Tx w K mg A):FnOk P w K mg base CX0 1 A.a_L_bag A.d_L_bag ["_law_script", "_law_at"] (sp_L_bag K):=by
 refine T.F_L_bag.ok sc_L_bag (fun vs H Q E h=>?_) (fun cdv A' outer s H vs Q E hr h=>?_)
 ·obtain ⟨a,ns,i,rfl,hS,h63,hi,q⟩:=h
  rfl
 obtain ⟨a,ns,i,rfl,hS,h63,hi,q⟩:=h
 refine ⟨_,(z_b (z_p (i:=2) sc_L_bag.nd rfl (Or.inl rfl) z_f)
  (z_b (y_x (z_q op_lt (pv 1) (z_x y_y rfl T.len PySem.boot_len (z_a (pv 0) z_e)) (nomark _)) (z_h (z_p (i:=2) sc_L_bag.nd rfl (Or.inl rfl) (z_x call_abs rfl T.abs PyProof.Rows.boot_abs (z_a (z_m z_o (pv 0) (pv 1) (fun _ _=>rfl)) z_e)))) z_y)
  (z_b (z_p (i:=3) sc_L_bag.nd rfl (Or.inl rfl) (z_t y_u (z_t op_mul z_f (pv 1)) z_f))
  (z_b (ps_for PassesOwn.never rfl (y_w rfl T.range (z_a (z_x (call_min2 rfl) rfl T.min PyProof.Rows.boot_min (z_a (z_x y_y rfl T.len PySem.boot_len (z_a (pv 0) z_e)) (z_a z_f z_e))) z_e)) (y_g (i:=4) sc_L_bag.nd rfl (Or.inl rfl))
    (z_h (z_p (i:=3) sc_L_bag.nd rfl (Or.inl rfl) (z_t op_mod (z_t y_u (z_t y_u (z_t op_mul (pv 3) z_f) (z_t op_mod (z_m z_o (pv 0) (pv 4) (fun _ _=>rfl)) z_f)) (z_t op_mul z_f (pv 4))) z_f))))
  (z_h (z_v (pe_lst (z_a (z_x (call_max2 rfl) rfl T.max PyProof.Rows.boot_max (z_a z_f (z_a (z_t op_sub (pv 2) (z_t op_pow z_f z_f)) z_e))) (z_a (z_t y_u (pv 3) z_f) z_e))))))))),?_⟩
 have hl:(ns.map V.int).length=ns.length:=List.length_map _
 refine ⟨_,rfl,_,rfl,_,_,rfl,.inl ⟨_,hS,rfl⟩,_,_,rfl,rfl,_,rfl,?_⟩
 refine ite2 (fun c=>?_) (fun c=>?_)
 ·have c':i<(((ns.map V.int).length:Nat):Int):=of_decide_eq_true c
  rw [hl] at c'
  obtain ⟨v,hv⟩:=at_mapI hi c'
  refine ⟨_,rfl,_,rfl,a,_,_,_,rfl,rfl,hS,hv,_,rfl,?_⟩
  refine ⟨_,rfl,_,_,rfl,rfl,.inl ⟨by decide,by decide⟩,_,_,rfl,rfl,?_⟩
  refine ⟨_,rfl,_,_,rfl,.inl ⟨_,hS,rfl⟩,_,_,rfl,_,rfl,?_,?_,for_range (lo:=0) (fun k σ H'=>∃ (m:Int) (x:Option V),σ=[some (.ref a),some (.int i),some (.int (if v<0 then -v else v)),some (.int m),x]/\H'=H) ⟨_,_,rfl,rfl⟩ ?_ ?_⟩
  ·split<;>lia
  ·split<;>lia
  ·rintro k σ H' hk ⟨m,x,rfl,rfl⟩
   have hk':k<ns.length:=by
    rw [hl] at hk
    split at hk<;>lia
   obtain ⟨u,hu⟩:=at_map (ns:=ns) hk'
   refine ⟨_,rfl,_,_,rfl,rfl,.inr ⟨by decide,by decide⟩,_,rfl,_,rfl,a,_,_,_,rfl,rfl,hS,(by rw [Int.zero_add];exact hu),_,_,rfl,rfl,(by show (0:Int)<2147483647;decide),_,_,rfl,rfl,_,rfl,_,_,rfl,rfl,.inl ⟨by decide,by decide⟩,_,_,rfl,rfl,_,_,rfl,rfl,(by show (0:Int)<2147483629;decide),?_⟩
   exact ⟨_,_,rfl,rfl⟩
  ·rintro σ H' ⟨m,x,rfl,rfl⟩
   refine ⟨_,rfl,_,_,rfl,rfl,⟨by decide,by decide,by decide⟩,_,_,rfl,rfl,_,_,rfl,_,rfl,_,_,rfl,rfl,(by show 2<=sizeLine;decide),fun l hl'=>?_⟩
   exact q l _ _ hl' (by split<;>lia)
 ·refine ⟨_,rfl,_,_,rfl,rfl,.inl ⟨by decide,by decide⟩,_,_,rfl,rfl,?_⟩
  refine ⟨_,rfl,_,_,rfl,.inl ⟨_,hS,rfl⟩,_,_,rfl,_,rfl,?_,?_,for_range (lo:=0) (fun k σ H'=>∃ (m:Int) (x:Option V),σ=[some (.ref a),some (.int i),some (.int 0),some (.int m),x]/\H'=H) ⟨_,_,rfl,rfl⟩ ?_ ?_⟩
  ·split<;>lia
  ·split<;>lia
  ·rintro k σ H' hk ⟨m,x,rfl,rfl⟩
   have hk':k<ns.length:=by
    rw [hl] at hk
    split at hk<;>lia
   obtain ⟨u,hu⟩:=at_map (ns:=ns) hk'
   refine ⟨_,rfl,_,_,rfl,rfl,.inr ⟨by decide,by decide⟩,_,rfl,_,rfl,a,_,_,_,rfl,rfl,hS,(by rw [Int.zero_add];exact hu),_,_,rfl,rfl,(by show (0:Int)<2147483647;decide),_,_,rfl,rfl,_,rfl,_,_,rfl,rfl,.inl ⟨by decide,by decide⟩,_,_,rfl,rfl,_,_,rfl,rfl,(by show (0:Int)<2147483629;decide),?_⟩
   exact ⟨_,_,rfl,rfl⟩
  ·rintro σ H' ⟨m,x,rfl,rfl⟩
   refine ⟨_,rfl,_,_,rfl,rfl,⟨by decide,by decide,by decide⟩,_,_,rfl,rfl,_,_,rfl,_,rfl,_,_,rfl,rfl,(by show 2<=sizeLine;decide),fun l hl'=>?_⟩
   exact q l _ _ hl' (by split<;>lia)
theorem ok_L_take(T:Tx w K mg A):FnOk P w K mg base CX0 1 A.a_L_take A.d_L_take ["_law_bag_here", "_law_many"] sp_L_take:=by
 refine T.F_L_take.ok sc_L_take (fun vs H Q E h=>?_) (fun cdv A' outer s H vs Q E hr h=>?_)
 ·obtain ⟨l,many,rfl,⟨b0,b1,hl,hb0⟩,h0,hbig,q⟩:=h
  rfl
 obtain ⟨l,many,rfl,⟨b0,b1,hl,hb0⟩,h0,hbig,q⟩:=h
 refine ⟨_,(z_b (y_x (z_q op_gt (z_m z_o (pv 0) z_f (fun _ _=>rfl)) z_f (nomark _)) (z_b (z_p (i:=2) sc_L_take.nd rfl (Or.inl rfl) (z_t op_mod (z_m z_o (pv 0) z_f (fun _ _=>rfl)) (pv 1)))
  (z_b (ps_asg (z_t op_fdivL (z_m z_o (pv 0) z_f (fun _ _=>rfl)) (pv 1)) (pg_sub (pv 0) z_f set_list))
  (z_h (z_v (pv 2))))) z_y)
  (z_b (ps_asg (z_t op_mod (z_t y_u (z_t op_mul (z_m z_o (pv 0) z_f (fun _ _=>rfl)) z_f) z_f) z_f) (pg_sub (pv 0) z_f set_list))
  (z_h (z_v (z_t op_mod (z_t op_mod (z_t op_mul (z_t op_fdivL (z_m z_o (pv 0) z_f (fun _ _=>rfl)) z_f) z_f) z_f) (pv 1)))))),?_⟩
 refine ⟨_,rfl,l,_,0,_,rfl,rfl,SqL.of hl,rfl,_,_,rfl,rfl,_,rfl,?_⟩
 refine ite2 (fun c=>?_) (fun c=>?_)
 ·have c':0<b0:=of_decide_eq_true c
  refine ⟨_,rfl,l,_,0,_,rfl,rfl,SqL.of hl,rfl,_,rfl,_,_,rfl,rfl,h0,?_⟩
  refine ⟨_,rfl,l,_,0,_,rfl,rfl,SqL.of hl,rfl,_,rfl,_,_,rfl,rfl,⟨h0,hbig⟩,_,rfl,l,_,0,0,rfl,rfl,hl,rfl,?_⟩
  refine ⟨_,rfl,?_⟩
  exact q _ _ (Int.emod_nonneg _ (by lia)) (Int.emod_lt_of_pos _ h0) (Bg.put _ _ (Int.ediv_nonneg hb0 (by lia)))
 ·refine ⟨_,rfl,l,_,1,_,rfl,rfl,SqL.of hl,rfl,_,_,rfl,rfl,.inr ⟨by decide,by decide⟩,_,_,rfl,rfl,_,_,rfl,rfl,(by show (0:Int)<2147483647;decide),_,rfl,l,_,1,1,rfl,rfl,hl,rfl,?_⟩
  refine ⟨_,rfl,l,_,1,_,rfl,rfl,SqL.of z_c,rfl,_,_,rfl,rfl,⟨by decide,by decide⟩,_,_,rfl,rfl,.inr ⟨by decide,by decide⟩,_,_,rfl,rfl,(by show (0:Int)<2147483629;decide),_,rfl,_,_,rfl,rfl,h0,?_⟩
  exact q _ _ (Int.emod_nonneg _ (by lia)) (Int.emod_lt_of_pos _ h0) (Bg.put _ _ hb0)
theorem ok_L_pool(T:Tx w K mg A)(G_L_take:FnOk P w K mg base CX0 1 A.a_L_take A.d_L_take ["_law_bag_here", "_law_many"] sp_L_take):FnOk P w K mg base CX0 2 A.a_L_pool A.d_L_pool ["_law_bag_here", "_law_many"] sp_pool:=by
 refine T.F_L_pool.ok sc_L_pool (fun vs H Q E h=>?_) (fun cdv A' outer s H vs Q E hr h=>?_)
 ·obtain ⟨l,m,rfl,hb,hm,q⟩:=h
  rfl
 obtain ⟨l,m,rfl,hb,hm,q⟩:=h
 conv in (z_j _)=>whnf
 simp only [bigL_eq,bigT_eq]
 refine ⟨_,(z_b (ps_comp [0] sc_L_pool.nd (i:=2) rfl (Or.inl rfl) (fun _ _ h=>h) rfl (y_w rfl T.range (z_a (z_t y_u z_f (z_l G_L_take (hr.mono (by first | decide | lia)) rfl T.M_L_take T.F_L_take.kp T.B_L_take .nil pass0 (z_a (pv 0) (z_a z_f z_e)))) z_e)) (fun _ _ _ _=>y_s) (fun _ _ _ _=>(z_m ix_str z_z (z_l G_L_take (hr.mono (by first | decide | lia)) rfl T.M_L_take T.F_L_take.kp T.B_L_take .nil pass0 (z_a (pv 1) (z_a z_f z_e))) (fun _ _=>rfl))) rfl (show ∀ j∈([0]:List Nat),j<8 by decide) (show (["_law_k", "_law_bag_here"]:List Str).Nodup by decide +kernel) (by with_unfolding_all rfl))
  (z_b (z_p (i:=3) sc_L_pool.nd rfl (Or.inl rfl) (z_l G_L_take (hr.mono (by first | decide | lia)) rfl T.M_L_take T.F_L_take.kp T.B_L_take .nil pass0 (z_a (pv 0) (z_a (z_x y_y rfl T.len PySem.boot_len (z_a (pv 2) z_e)) z_e))))
  (z_b (z_p (i:=4) sc_L_pool.nd rfl (Or.inl rfl) (pe_bigL rfl) (by unfold bigL;rfl))
  (z_b (z_p (i:=5) sc_L_pool.nd rfl (Or.inl rfl) (pe_lst z_e))
  (z_b (ps_for PassesOwn.never rfl (y_w rfl T.range (z_a (pv 1) z_e)) (y_g (i:=6) sc_L_pool.nd rfl (Or.inl rfl))
    (z_b (z_p (i:=7) sc_L_pool.nd rfl (Or.inl rfl) (z_t op_add_str (z_t op_add_str (pe_bm PySem.F.plainAttrs_str PySem.F.slot_str_join PySem.F.type_str_join mt_join z_z (z_a (pe_slice sl_list (pv 2) po_none (po_some (pv 3))) z_e)) (z_m ix_str z_z (pv 6) (fun _ _=>rfl))) (pe_bm PySem.F.plainAttrs_str PySem.F.slot_str_join PySem.F.type_str_join mt_join z_z (z_a (pe_slice sl_list (pv 2) (po_some (z_t y_u (pv 3) z_f)) po_none) z_e))))
  (z_h (ps_expr (pe_bm PySem.F.plainAttrs_list PySem.F.slot_list_append PySem.F.type_list_append mt_append (pv 5) (z_a (z_t op_add_str (pv 7) (z_t op_mulS z_z (y_i call_int1 rfl T.int PyProof.Rows.boot_int (z_a (pe_cmpR op_in_seq (pv 7) (z_t op_cat (pv 4) (pe_lst (z_a z_z (z_a z_z z_e)))) rfl) z_e)))) z_e))))))
  (z_h (z_v (pv 5)))))))),?_⟩
 refine ⟨_,rfl,l,7,rfl,hb,by decide,by decide,fun d H1 d0 d1 hb1=>?_⟩
 refine ⟨_,_,rfl,rfl,_,rfl,by lia,by lia,comp_range (lo:=0) (fun i ys H'=>Bg l H H'/\∃ zs:List Str,ys=zs.map V.str/\zs.length=i/\∀ z∈zs,z.length=1/\PyData.strOk z=true) ⟨hb1,[],rfl,rfl,(fun _ h=>nomatch h)⟩ ?_ ?_ ?_⟩
 ·rintro i ys H' hi ⟨g,zs,rfl,hl,hz⟩
  rw [List.length_map]
  exact y_j (by lia)
 ·rintro i ys H' hi ⟨g,zs,rfl,hl,hz⟩
  unfold tYes
  refine iteT ⟨_,rfl,l,26,rfl,g.2,by decide,by decide,fun e H3 e0 e1 hb3=>?_⟩
  obtain ⟨c,hc,hcm⟩:=at_any (xs:=("abcdefghijklmnopqrstuvwxyz" : Str).cps.toList) e0 (show e<26 from e1)
  refine ⟨_,_,c,rfl,rfl,(by decide),hc,?_⟩
  refine ⟨g.trans hb3,zs++[⟨#[c]⟩],by rw [List.map_append];rfl,by rw [List.length_append,hl];rfl,fun z hz'=>?_⟩
  rcases List.mem_append.mp hz' with h | h
  ·exact hz z h
  ·rw [List.mem_singleton.mp h];exact ⟨rfl,ok_one (abc_ok c (List.mem_of_getElem? hcm))⟩
 ·rintro ys H2 ⟨g,zs,rfl,hl,hz⟩ ps hps
  have nps:ps≠l:=g.2.ne hps
  have g3:=g.trans (Bg.new g.2 hps (.lst (zs.map V.str)))
  have hps3:=z_c (H:=H2) (a:=ps) (o:=.lst (zs.map V.str))
  generalize upd H2 ps (.lst (zs.map V.str))=H3 at g3 hps3 ⊢
  have hzl:1<=zs.length/\zs.length<=7:=by lia
  refine ⟨_,rfl,_,rfl,_,_,rfl,.inl ⟨_,SqL.of hps3,rfl⟩,l,_,rfl,g3.2,(by rw [List.length_map];lia),(by rw [List.length_map];exact Int.lt_trans (show (zs.length:Int)<100 by lia) (by decide)),fun k H4 k0 k1 hb4=>?_⟩
  rw [List.length_map] at k1
  obtain ⟨k,rfl⟩:=Int.eq_ofNat_of_zero_le k0
  have g4:=g3.trans hb4
  have hps4:=hb4.1 ps _ nps hps3
  refine ⟨(by show 14<=sizeLine;decide),fun pq hpq=>?_⟩
  have npq:pq≠l:=g4.2.ne hpq
  have g4':=g4.trans (Bg.new g4.2 hpq (.lst ([("not" : Str), "and", "or", "odd", "sum", "less", "under", "same", "choice", "up", "down", "join", "cut", "table"].map V.str)))
  have hps4':=(z_d hpq (.lst ([("not" : Str), "and", "or", "odd", "sum", "less", "under", "same", "choice", "up", "down", "join", "cut", "table"].map V.str))) _ _ hps4
  have hpq4:=z_c (H:=H4) (a:=pq) (o:=.lst ([("not" : Str), "and", "or", "odd", "sum", "less", "under", "same", "choice", "up", "down", "join", "cut", "table"].map V.str))
  show tSeq _ _ _ [some (.ref l),some (.int m),some (.ref ps),some (.int (k:Int)),some (.ref pq),none,none,none] (upd H4 pq (.lst ([("not" : Str), "and", "or", "odd", "sum", "less", "under", "same", "choice", "up", "down", "join", "cut", "table"].map V.str)))
  generalize upd H4 pq (.lst ([("not" : Str), "and", "or", "odd", "sum", "less", "under", "same", "choice", "up", "down", "join", "cut", "table"].map V.str))=H4' at g4' hps4' hpq4 ⊢
  refine ⟨(by show 0<=sizeLine;decide),fun pn hpn=>?_⟩
  have npn:pn≠l:=g4'.2.ne hpn
  have hpnH:H pn=none:=by
   cases hh:H pn with
   | none=>rfl
   | some o=>rw [g4'.1 pn o npn hh] at hpn;cases hpn
  have g5:=g4'.trans (Bg.new g4'.2 hpn (.lst []))
  have hps5:=(z_d hpn (.lst [])) _ _ hps4'
  have hpq5:=(z_d hpn (.lst [])) _ _ hpq4
  have hpn5:=z_c (H:=H4') (a:=pn) (o:=.lst [])
  have nspn:ps≠pn:=z_n hps4' hpn
  have nqpn:pq≠pn:=z_n hpq4 hpn
  show tSeq _ _ _ [some (.ref l),some (.int m),some (.ref ps),some (.int (k:Int)),some (.ref pq),some (.ref pn),none,none] (upd H4' pn (.lst []))
  generalize upd H4' pn (.lst [])=H5 at g5 hps5 hpq5 hpn5 ⊢
  have hAl:(Txt.join "" (zs.take k)).length<=7:=by
   rw [join_lenM]
   exact Nat.le_trans (sum_ones fun z hz'=>(hz z (List.mem_of_mem_take hz')).1) (by rw [List.length_take];lia)
  have hBl:(Txt.join "" (zs.drop (k+1))).length<=7:=by
   rw [join_lenM]
   exact Nat.le_trans (sum_ones fun z hz'=>(hz z (List.mem_of_mem_drop hz')).1) (by rw [List.length_drop];lia)
  have s1:(zs.take k |>.map (·.length)).sum<=8:=Nat.le_trans (sum_ones fun z hz'=>(hz z (List.mem_of_mem_take hz')).1) (by rw [List.length_take];lia)
  have s2:(zs.drop (k+1) |>.map (·.length)).sum<=8:=Nat.le_trans (sum_ones fun z hz'=>(hz z (List.mem_of_mem_drop hz')).1) (by rw [List.length_drop];lia)
  have l1:(zs.take k).length<=8:=by rw [List.length_take];lia
  have l2:(zs.drop (k+1)).length<=8:=by rw [List.length_drop];lia
  have okA:=ok_join (us:=zs.take k) fun u hu=>(hz u (List.mem_of_mem_take hu)).2
  have okB:=ok_join (us:=zs.drop (k+1)) fun u hu=>(hz u (List.mem_of_mem_drop hu)).2
  generalize hA:Txt.join "" (zs.take k)=AA at hAl okA
  generalize hB:Txt.join "" (zs.drop (k+1))=BB at hBl okB
  refine ⟨_,rfl,_,rfl,by lia,by lia,for_range (lo:=0) (fun i σ H'=>∃ (z6 z7:Option V),σ=[some (.ref l),some (.int m),some (.ref ps),some (.int (k:Int)),some (.ref pq),some (.ref pn),z6,z7]/\Bg l H H'/\H' ps=some (.lst (zs.map V.str))/\H' pq=some (.lst ([("not" : Str), "and", "or", "odd", "sum", "less", "under", "same", "choice", "up", "down", "join", "cut", "table"].map V.str))/\H' pn=some (.lst (((List.range i).map (nmQ AA BB)).map V.str))) ⟨_,_,rfl,g5,hps5,hpq5,hpn5⟩ ?_ ?_⟩
  ·rintro i σ H' hi ⟨z6,z7,rfl,g,hs',hq',hn'⟩
   have hi24:i<24:=by lia
   have hc:atI letters.cps.toList (0+(i:Int))=some (letters.cps.toList.getD i 0):=by
    rw [Int.zero_add]
    have hl24:letters.cps.toList.length=24:=by decide +kernel
    exact z_u (by rw [List.getD_eq_getElem?_getD,List.getElem?_eq_getElem (by lia)];rfl)
   refine ⟨rfl,_,rfl,_,rfl,_,rfl,ps,_,rfl,SqL.of hs',fun p1 hp1=>?_⟩
   rw [cut_to (by rw [List.length_map];lia),<-List.map_take]
   have t1:=z_d hp1 (.lst ((zs.take k).map V.str))
   refine ⟨"",p1,zs.take k,rfl,rfl,SqL.of z_c,(by show _+_*0<=16777216;lia),?_⟩
   rw [hA]
   refine ⟨_,rfl,_,_,_,rfl,rfl,(by decide),hc,_,_,rfl,rfl,small (by show _+1<=_;lia),?_⟩
   generalize upd H' p1 (.lst ((zs.take k).map V.str))=Ha at t1 ⊢
   refine ⟨rfl,_,rfl,_,rfl,_,_,rfl,rfl,_,rfl,ps,_,rfl,SqL.of (t1 _ _ hs'),fun p2 hp2=>?_⟩
   have hcut:cutV (zs.map V.str) (some ((k:Int)+1)) none=(zs.drop (k+1)).map V.str:=by
    rw [show ((k:Int)+1)=((k+1:Nat):Int) by push_cast;rfl,cut_from (by rw [List.length_map];lia),<-List.map_drop]
   rw [hcut]
   have t2:=t1.trans (z_d hp2 (.lst ((zs.drop (k+1)).map V.str)))
   refine ⟨"",p2,zs.drop (k+1),rfl,rfl,SqL.of z_c,(by show _+_*0<=16777216;lia),?_⟩
   rw [hB]
   refine ⟨_,_,rfl,rfl,small (by rw [Str.length_append];show _+1+_<=_;lia),?_⟩
   have enn:AA++(⟨#[letters.cps.toList.getD i 0]⟩:Str)++BB=nmK AA BB i:=rfl
   rw [enn]
   have nnl:=nmK_len AA BB i
   show tSeq _ _ _ [some (.ref l),some (.int m),some (.ref ps),some (.int (k:Int)),some (.ref pq),some (.ref pn),some (.int (0+(i:Int))),some (.str (nmK AA BB i))] (upd Ha p2 (.lst ((zs.drop (k+1)).map V.str)))
   generalize upd Ha p2 (.lst ((zs.drop (k+1)).map V.str))=Hb at t2 ⊢
   have gb:=g.trans (g.2.same t2)
   have hsb:=t2 _ _ hs'
   have hqb:=t2 _ _ hq'
   have hnb:=t2 _ _ hn'
   refine ⟨_,rfl,.inl ⟨rfl,_,SqL.of hnb⟩,_,rfl,_,rfl,_,rfl,(by show 2<=sizeLine;decide),fun p3 hp3=>?_⟩
   have t3:=z_d hp3 (.lst [.str "wire",.str "number"])
   have f3:=z_c (H:=Hb) (a:=p3) (o:=.lst [.str "wire",.str "number"])
   generalize upd Hb p3 (.lst [.str "wire",.str "number"])=Hc at t3 f3 ⊢
   refine ⟨pq,p3,_,_,rfl,rfl,t3 _ _ hqb,f3,(by show 14+2<=sizeLine;decide),fun p4 hp4=>?_⟩
   have t4:=z_d hp4 (.lst (words16.map V.str))
   have f4:=z_c (H:=Hc) (a:=p4) (o:=.lst (words16.map V.str))
   show rIn _ false _ _ (upd Hc p4 (.lst (words16.map V.str))) _
   generalize upd Hc p4 (.lst (words16.map V.str))=Hd at t4 f4 ⊢
   refine ⟨p4,_,rfl,.inl (SqL.of f4),rfl,rfl,.inr ⟨_,rfl,?_⟩⟩
   have t34:=t3.trans t4
   have einV:inV (V.str (nmK AA BB i)) (words16.map V.str)=decide (nmK AA BB i∈words16):=inV_strs _ _
   have fin:∀ (sfx:Str),sfx=(if nmK AA BB i∈words16 then "q" else "")->sfx.length<=1->∃ z6 z7:Option V,[some (V.ref l),some (.int m),some (.ref ps),some (.int (k:Int)),some (.ref pq),some (.ref pn),some (.int (0+(i:Int))),some (.str (nmK AA BB i))]=[some (.ref l),some (.int m),some (.ref ps),some (.int (k:Int)),some (.ref pq),some (.ref pn),z6,z7]/\Bg l H (upd Hd pn (.lst (((List.range i).map (nmQ AA BB)).map V.str++[V.str (nmK AA BB i++sfx)])))/\(upd Hd pn (.lst (((List.range i).map (nmQ AA BB)).map V.str++[V.str (nmK AA BB i++sfx)]))) ps=some (.lst (zs.map V.str))/\(upd Hd pn (.lst (((List.range i).map (nmQ AA BB)).map V.str++[V.str (nmK AA BB i++sfx)]))) pq=some (.lst ([("not" : Str), "and", "or", "odd", "sum", "less", "under", "same", "choice", "up", "down", "join", "cut", "table"].map V.str))/\(upd Hd pn (.lst (((List.range i).map (nmQ AA BB)).map V.str++[V.str (nmK AA BB i++sfx)]))) pn=some (.lst (((List.range (i+1)).map (nmQ AA BB)).map V.str)):=fun sfx hsf _=>by
    refine ⟨_,_,rfl,(gb.trans (gb.2.same t34)).set hpnH npn _,by rw [z_s nspn];exact t34 _ _ hsb,by rw [z_s nqpn];exact t34 _ _ hqb,?_⟩
    rw [z_c,List.range_succ,List.map_append,List.map_append]
    show _=some (HO.lst (_++[V.str (nmK AA BB i++_)]))
    rw [hsf]
   have hul:(((List.range i).map (nmQ AA BB)).map V.str).length=i:=by rw [List.length_map,List.length_map,List.length_range]
   by_cases hw:nmK AA BB i∈words16
   ·refine ⟨"q",_,rfl,rfl,.inr ⟨by rw [einV,decide_eq_true hw];rfl,?_⟩⟩
    refine ⟨_,_,rfl,rfl,small (by show _+1<=_;lia),pn,_,_,rfl,rfl,t34 _ _ hnb,y_j (by rw [hul];lia),?_⟩
    exact fin "q" (by rw [if_pos hw]) (Nat.le_refl _)
   ·refine ⟨"q",_,rfl,rfl,.inl ⟨by rw [einV,decide_eq_false hw];rfl,?_⟩⟩
    refine ⟨_,_,rfl,rfl,small (by show _+0<=_;lia),pn,_,_,rfl,rfl,t34 _ _ hnb,y_j (by rw [hul];lia),?_⟩
    exact fin "" (by rw [if_neg hw]) (Nat.zero_le _)
  ·rintro σ H' ⟨z6,z7,rfl,g,hs',hq',hn'⟩
   rw [Int.toNat_natCast] at hn'
   refine ⟨_,rfl,q pn _ H' (by rw [List.length_map,List.length_range]) (names_nodup AA BB hm) (fun z hz'=>?_) npn hpnH g hn'⟩
   obtain ⟨j,_,rfl⟩:=List.mem_map.mp hz'
   have:=nmQ_len AA BB j
   exact ⟨by lia,nmQ_ok okA okB j⟩
theorem ok_L_same(T:Tx w K mg A)(n:Nat)(G_L_same:FnOk P w K mg base CX0 (n+2) A.a_L_same A.d_L_same ["_law_found", "_law_due"] (sp_same n)):FnOk P w K mg base CX0 (n+3) A.a_L_same A.d_L_same ["_law_found", "_law_due"] (sp_same (n+1)):=by
 refine T.F_L_same.ok sc_L_same (fun vs H Q E h=>?_) (fun cdv A' outer s H vs Q E hr h=>?_)
 ·obtain ⟨v,u,rfl,⟨m,hm,hS⟩,q⟩:=h
  rfl
 obtain ⟨v,u,rfl,⟨m,hm,hS⟩,q⟩:=h
 have hu64:=hr.units
 refine ⟨_,(z_b (y_x (pt_truth (z_x (call_isin2 (K:=K) rfl (S := "tuple") (T := "list")) rfl T.isinstance PyProof.Rows.boot_isinstance (z_a (pv 1) (z_a (y_v (z_a (pe_bltn (v:=.ty "tuple") rfl T.tuple PyProof.Rows.boot_tuple rfl) (z_a (pe_bltn (v:=.ty "list") rfl T.list PyProof.Rows.boot_list rfl) z_e))) z_e))) (fun _=>rfl)) (z_b (y_x (PW.pt (pw_or (pt_not (pt_truth (z_x (call_isin2 (K:=K) rfl (S := "tuple") (T := "list")) rfl T.isinstance PyProof.Rows.boot_isinstance (z_a (pv 0) (z_a (y_v (z_a (pe_bltn (v:=.ty "tuple") rfl T.tuple PyProof.Rows.boot_tuple rfl) (z_a (pe_bltn (v:=.ty "list") rfl T.list PyProof.Rows.boot_list rfl) z_e))) z_e))) (fun _=>rfl))) (pw_or1 (z_q op_ne (z_x (call_isinst (T := "list")) rfl T.isinstance PyProof.Rows.boot_isinstance (z_a (pv 0) (z_a (pe_bltn (v:=.ty "list") rfl T.list PyProof.Rows.boot_list rfl) z_e))) (z_x (call_isinst (T := "list")) rfl T.isinstance PyProof.Rows.boot_isinstance (z_a (pv 1) (z_a (pe_bltn (v:=.ty "list") rfl T.list PyProof.Rows.boot_list rfl) z_e))) (nomark _))))) (z_h (z_v pe_bl)) z_y)
  (z_h (z_v (pe_and (pe_cmpR x_e (z_x y_y rfl T.len PySem.boot_len (z_a (pv 0) z_e)) (z_x y_y rfl T.len PySem.boot_len (z_a (pv 1) z_e)) (nomark _)) (pe_one (z_x call_all rfl T.all PyProof.Rows.boot_all (z_a (pe_compG ["_law_one", "_law_other"] [] (fun _ _ h=>h) rfl (pi_zip rfl T.zip (z_a (pv 0) (z_a (pv 1) z_e))) (fun _ _ _ _=>(pg_tup rfl (pgs_cons (y_g (i:=0) (show (["_law_one", "_law_other"]:List Str).Nodup by decide +kernel) rfl (Or.inl rfl)) (pgs_cons (y_g (i:=1) (show (["_law_one", "_law_other"]:List Str).Nodup by decide +kernel) rfl (Or.inl rfl)) pgs_nil)))) shp_tup2 (fun _ _ _ _=>y_s) (fun _ _ _ _=>(z_l G_L_same (hr.mono (by first | decide | lia)) rfl T.M_L_same T.F_L_same.kp T.B_L_same .nil pass0 (z_a (pv 0) (z_a (pv 1) z_e)))) rfl (show ∀ j∈([]:List Nat),j<2 by decide)) z_e))))))) z_y)
  (z_b (y_x (pt_truth (z_x (call_isinst (T := "str")) rfl T.isinstance PyProof.Rows.boot_isinstance (z_a (pv 1) (z_a (pe_bltn (v:=.ty "str") rfl T.str PyProof.Rows.boot_str rfl) z_e))) (fun _=>rfl)) (z_h (z_v (pe_and (z_x (call_isinst (T := "str")) rfl T.isinstance PyProof.Rows.boot_isinstance (z_a (pv 0) (z_a (pe_bltn (v:=.ty "str") rfl T.str PyProof.Rows.boot_str rfl) z_e))) (pe_one (pe_cmpR (op_eqD hu64) (pv 0) (pv 1) (nomark _)))))) z_y)
  (z_h (z_v (pe_and (z_x (call_isinst (T := "int")) rfl T.isinstance PyProof.Rows.boot_isinstance (z_a (pv 0) (z_a (pe_bltn (v:=.ty "int") rfl T.int PyProof.Rows.boot_int rfl) z_e))) (pe_and (pe_not (z_x (call_isinst (T := "bool")) rfl T.isinstance PyProof.Rows.boot_isinstance (z_a (pv 0) (z_a (pe_bltn (v:=.ty "bool") rfl T.bool PyProof.Rows.boot_bool rfl) z_e)))) (pe_one (pe_cmpR (op_eqD hu64) (pv 0) (pv 1) (nomark _))))))))),?_⟩
 obtain rfl:n=m:=Nat.succ.inj hm
 cases n with
 | zero =>
  obtain ⟨i,rfl,rfl⟩:=hS
  refine ⟨_,rfl,(by show 2<=sizeLine;decide),fun p1 hp1=>?_⟩
  refine ⟨_,p1,_,false,rfl,z_c,TyOf.int i,rfl,_,rfl,?_⟩
  have t1:=z_d hp1 (.tup [.ty "tuple",.ty "list"])
  generalize upd H p1 (.tup [.ty "tuple",.ty "list"])=H1 at t1 ⊢
  refine iteF ?_
  refine ⟨_,rfl,_,_,false,rfl,TyOf.int i,rfl,_,rfl,?_⟩
  refine iteF ?_
  refine ⟨_,rfl,_,_,true,rfl,TyOf.int i,rfl,_,rfl,?_⟩
  refine iteT ?_
  refine ⟨_,rfl,_,_,false,rfl,TyOf.int i,rfl,_,rfl,_,rfl,?_⟩
  refine iteT ?_
  exact ⟨_,rfl,_,rfl,rEqD.eq (.int i) (.int _) (.int _) (.int _) (q H1 t1)⟩
 | succ n =>
  obtain ⟨p,r,xs,ys,rfl,rfl,hp,hr',hl,hP⟩:=hS
  refine ⟨_,rfl,(by show 2<=sizeLine;decide),fun p1 hp1=>?_⟩
  have t1:=z_d hp1 (.tup [.ty "tuple",.ty "list"])
  have e1:=z_c (H:=H) (a:=p1) (o:=.tup [.ty "tuple",.ty "list"])
  generalize upd H p1 (.tup [.ty "tuple",.ty "list"])=H1 at t1 e1 ⊢
  refine ⟨_,p1,_,true,rfl,e1,TyOf.lst (t1 _ _ hr'),rfl,_,rfl,?_⟩
  refine iteT ?_
  refine ⟨_,rfl,(by show 2<=sizeLine;decide),fun p2 hp2=>?_⟩
  have t2:=t1.trans (z_d hp2 (.tup [.ty "tuple",.ty "list"]))
  have e2:=z_c (H:=H1) (a:=p2) (o:=.tup [.ty "tuple",.ty "list"])
  generalize upd H1 p2 (.tup [.ty "tuple",.ty "list"])=H2 at t2 e2 ⊢
  refine ⟨_,p2,_,true,rfl,e2,TyOf.lst (t2 _ _ hp),rfl,_,rfl,?_⟩
  refine iteF ?_
  have P2:=z_r (fun _ _ h=>Sam.same t2 h) hP
  have lP:=Paired.length hP
  have hp2':=t2 _ _ hp
  have hr2':=t2 _ _ hr'
  refine ⟨_,rfl,_,_,true,rfl,TyOf.lst hp2',rfl,_,rfl,_,_,true,rfl,TyOf.lst hr2',rfl,rfl,_,rfl,?_⟩
  refine iteF ?_
  refine ⟨_,rfl,_,_,rfl,.inl ⟨_,SqL.of hp2',rfl⟩,_,rfl,_,_,rfl,.inl ⟨_,SqL.of hr2',rfl⟩,rfl,_,rfl,?_⟩
  refine y_k (decide_eq_true (by rw [lP])) ?_
  refine ⟨_,rfl,_,rfl,p,r,rfl,⟨_,SqL.of hp2'⟩,⟨_,SqL.of hr2'⟩,comp_zip (xs:=xs) (us:=ys) (fun i zs H'=>Same H2 H'/\zs=(List.replicate i true).map V.bl) ⟨Same.refl _,rfl⟩ ?_ lP ?_ ?_ ?_⟩
  ·rintro j zs H' _ ⟨s',_⟩
   exact ⟨SqL.of (s' _ _ hp2'),SqL.of (s' _ _ hr2')⟩
  ·rintro j zs H' hj ⟨_,rfl⟩
   rw [List.length_map,List.length_replicate]
   exact y_j (by lia)
  ·rintro j x y pp zs H' os hos hx hy ⟨s',rfl⟩ hpp
   obtain ⟨o1,o2,rfl⟩:=two_ad hos
   obtain ⟨y',hy',hxy⟩:=pairedGet P2 hx
   rw [hy] at hy'
   cases hy'
   have u1:=z_d hpp (.tup [x,y])
   refine ⟨pp,_,rfl,SqT.of z_c,rfl,_,_,rfl,_,_,rfl,rfl,?_⟩
   generalize upd H' pp (.tup [x,y])=H3 at u1 ⊢
   unfold tYes
   refine iteT ⟨_,rfl,_,rfl,x,y,rfl,⟨n,rfl,Sam.same (s'.trans u1) hxy⟩,fun H4 s4=>?_⟩
   refine ⟨s'.trans (u1.trans s4),?_⟩
   rw [List.replicate_succ',List.map_append]
   rfl
  rintro zs H' ⟨s',rfl⟩ pl hpl
  refine ⟨rfl,pl,_,rfl,SqL.of z_c,?_⟩
  have eall:(List.replicate xs.length true).all id=true:=by simp
  rw [eall]
  exact q _ (t2.trans (s'.trans (z_d hpl _)))
theorem ok_L_run(T:Tx w K mg A):FnOk P w K mg base CX0 1 A.a_L_run A.d_L_run ["_law_sources", "_law_firsts", "_law_outs", "_law_beats", "_law_top"] sp_Lrun:=by
 refine T.F_L_run.ok sc_L_run (fun vs H Q E h=>?_) (fun cdv A' outer s H vs Q E hr h=>?_)
 ·obtain ⟨P,ps,pf,po,bt,rs,bs,rfl,ok,⟨sr,hps⟩,hpf,hpo,hB,hI,h12,q⟩:=h
  rfl
 obtain ⟨P,ps,pf,po,bt,rs,bs,rfl,ok,⟨sr,hps⟩,hpf,hpo,hB,hI,h12,q⟩:=h
 refine ⟨_,(z_b (z_p (i:=5) sc_L_run.nd rfl (Or.inl rfl) (y_i call_list_of rfl T.list PyProof.Rows.boot_list (z_a (pv 1) z_e)))
  (z_b (z_p (i:=6) sc_L_run.nd rfl (Or.inl rfl) (pe_lst z_e))
  (z_b (ps_for PassesOwn.never rfl (y_r (pv 3)) (y_g (i:=7) sc_L_run.nd rfl (Or.inl rfl))
    (z_b (z_p (i:=8) sc_L_run.nd rfl (Or.inr rfl) (z_t op_cat (pv 7) (pv 5)))
  (z_b (ps_expr (pe_bm PySem.F.plainAttrs_list PySem.F.slot_list_append PySem.F.type_list_append mt_append (pv 6) (z_a (pe_comp [8] (fun _ _ h=>h) rfl (y_r (pv 2)) (fun _ _ _ _=>y_s) (fun _ _ _ _=>(z_m (ix_listK (K:=K) rfl) (pv 1) (pv 0) (fun _ _=>rfl))) rfl (show ∀ j∈([8]:List Nat),j<11 by decide) (show (["_law_k", "_law_numbers"]:List Str).Nodup by decide +kernel)) z_e)))
  (z_b (z_p (i:=5) sc_L_run.nd rfl (Or.inl rfl) (pe_lst z_e))
  (z_h (ps_for PassesOwn.never rfl (y_r (pv 0)) (pg_tup rfl (pgs_cons (y_g (i:=9) sc_L_run.nd rfl (Or.inl rfl)) (pgs_cons (y_g (i:=10) sc_L_run.nd rfl (Or.inl rfl)) pgs_nil)))
    (z_h (ps_expr (pe_bm PySem.F.plainAttrs_list PySem.F.slot_list_append PySem.F.type_list_append mt_append (pv 5) (z_a (z_m z_o (pe_lst (z_a (z_m z_o (pv 8) (pv 9) (fun _ _=>rfl)) (z_a (z_t op_sub (pv 4) (z_m z_o (pv 8) (pv 9) (fun _ _=>rfl))) z_e))) (pv 10) (fun _ _=>rfl)) z_e))))))))))
  (z_h (z_v (pv 6)))))),?_⟩
 have i3:=ok.hi
 have b8:=ok.hb
 have o8:=ok.ol
 have sl:=ok.sl
 have fl:=ok.fl
 have lB:=hB.length
 refine ⟨_,rfl,pf,_,rfl,.inl (SqL.of hpf),fun p1 hp1=>?_⟩
 have s1:=z_d hp1 (.lst (P.fs.map V.int))
 have g1:=z_c (H:=H) (a:=p1) (o:=.lst (P.fs.map V.int))
 dsimp only [gName]
 generalize upd H p1 (.lst (P.fs.map V.int))=H1 at s1 g1 ⊢
 refine ⟨(by show 0<=sizeLine;decide),fun pt hpt=>?_⟩
 have t2:=z_d hpt (.lst [])
 have g2:=z_c (H:=H1) (a:=pt) (o:=.lst [])
 have hptH:=s1.free hpt
 dsimp only [gName]
 generalize upd H1 pt (.lst [])=H2 at t2 g2 ⊢
 refine ⟨_,rfl,bt,rfl,⟨_,SqL.of ((s1.trans t2) _ _ hB.1)⟩,for_list (xs:=rs.map V.ref) (fun i σ H'=>∃ (pst:Addr) (ts:List Addr) (y1 y2 y3 y4:Option V),σ=[some (.ref ps),some (.ref pf),some (.ref po),some (.ref bt),some (.int (2^P.W-1)),some (.ref pst),some (.ref pt),y1,y2,y3,y4]/\Same H1 H'/\H' pt=some (.lst (ts.map V.ref))/\Pw H' ts (P.run P.fs (bs.take i)).2/\(∀ u∈ts,u≠pt/\H u=none)/\H' pst=some (.lst ((P.run P.fs (bs.take i)).1.map V.int))/\pst≠pt) ⟨p1,[],_,_,_,_,rfl,t2,g2,.nil,(fun _ h=>nomatch h),t2 _ _ g1,fun z=>by rw [z,hpt] at g1;cases g1⟩ ?_ ?_ ?_⟩
 ·rintro i σ H' _ ⟨_,_,_,_,_,_,_,s',_⟩
  exact SqL.of ((s1.trans s') _ _ hB.1)
 ·rintro i v σ H' hv ⟨pst,ts,y1,y2,y3,y4,rfl,s',fp,hts,hne,fst,npt⟩
  have hi:i<bs.length:=by have:=(List.getElem?_eq_some_iff.mp hv).1;rw [List.length_map] at this;lia
  rw [List.getElem?_map] at hv
  obtain ⟨rb,hrb,rfl⟩:=Option.map_eq_some_iff.mp hv
  have SS:=s1.trans s'
  obtain ⟨g,hg,hrg⟩:=pairedGet (hB.same SS).2 hrb
  have hgI:=hI g (List.mem_of_getElem? hg)
  have tl:=Paired.length hts
  rw [P.run_len,List.length_take] at tl
  have esn:=P.run_snoc (st:=P.fs) hg
  have lst:=P.st_len P.fs ok.fl (bs.take i)
  generalize hRun:P.run P.fs (bs.take i)=R at hts fst esn lst
  have nl:(g++R.1).length=P.I+P.B:=by rw [List.length_append];lia
  refine ⟨_,rfl,_,rfl,rb,pst,_,_,rfl,rfl,hrg,fst,small (by rw [List.length_map,List.length_map];lia),fun pn hpn=>?_⟩
  rw [<-List.map_append]
  have u1:=z_d hpn (.lst ((g++R.1).map V.int))
  have gn:=z_c (H:=H') (a:=pn) (o:=.lst ((g++R.1).map V.int))
  dsimp only [gName]
  generalize upd H' pn (.lst ((g++R.1).map V.int))=J at u1 gn ⊢
  have JJ:=SS.trans u1
  have fpJ:=u1 _ _ fp
  have npn:pn≠pt:=fun z=>by rw [z,fp] at hpn;cases hpn
  have atN:∀ {Jx:Hp} {k:Nat},k<P.I+P.B->atI ((g++R.1).map V.int) ((k:Nat):Int)=some (.int ((g++R.1).getD k 0)):=fun {Jx k} hk=>z_u (by rw [List.getElem?_map,List.getD_eq_getElem?_getD,List.getElem?_eq_getElem (by lia)];rfl)
  refine ⟨_,rfl,.inl ⟨rfl,_,SqL.of fpJ⟩,_,rfl,po,rfl,⟨_,SqL.of (JJ _ _ hpo)⟩,comp_list (xs:=(P.outs.map fun k=>((k:Nat):Int)).map V.int) (fun j ys J'=>ys=((P.told (g++R.1)).take j).map V.int/\J=J') ⟨rfl,rfl⟩ ?_ ?_ ?_ ?_⟩
  ·rintro j ys J' _ ⟨_,rfl⟩
   exact SqL.of (JJ _ _ hpo)
  ·rintro j ys J' hj ⟨rfl,_⟩
   rw [List.length_map,List.length_map] at hj
   rw [List.length_map,List.length_take,P.told_len]
   exact y_j (by lia)
  ·rintro j v ys J' hv ⟨rfl,rfl⟩
   rw [List.getElem?_map,List.getElem?_map] at hv
   cases hk:P.outs[j]? with
   | none=>rw [hk] at hv;cases hv
   | some k =>
    rw [hk] at hv
    cases hv
    have hto:(P.told (g++R.1))[j]? = some ((g++R.1).getD k 0):=by unfold Bx.told;rw [List.getElem?_map,hk];rfl
    unfold tYes
    refine iteT ⟨_,rfl,_,rfl,pn,_,_,_,rfl,rfl,SqL.of gn,atN (Jx:=J) (ok.oo k (List.mem_of_getElem? hk)),?_⟩
    refine ⟨?_,rfl⟩
    rw [x_i hto,List.map_append]
    rfl
  rintro ys J' ⟨rfl,rfl⟩ pv hpv
  rw [List.length_map,List.length_map,<-P.told_len (g++R.1),List.take_length]
  have v1:=z_d hpv (.lst ((P.told (g++R.1)).map V.int))
  have w1:=z_c (H:=J) (a:=pv) (o:=.lst ((P.told (g++R.1)).map V.int))
  generalize upd J pv (.lst ((P.told (g++R.1)).map V.int))=J1 at v1 w1 ⊢
  have fpJ1:=v1 _ _ fpJ
  have npv:pv≠pt:=fun z=>by rw [z,fpJ] at hpv;cases hpv
  refine ⟨pt,_,_,rfl,rfl,fpJ1,y_j (by rw [List.length_map];lia),?_⟩
  have kp:∀ b o,b≠pt->J1 b=some o->(upd J1 pt (.lst (ts.map V.ref++[.ref pv]))) b=some o:=fun b o n e=>by rw [z_s n];exact e
  have f2':=z_c (H:=J1) (a:=pt) (o:=.lst (ts.map V.ref++[.ref pv]))
  have S2:Same H1 (upd J1 pt (.lst (ts.map V.ref++[.ref pv]))):=sameUpd (s'.trans (u1.trans v1)) hpt _
  have P2:Pw (upd J1 pt (.lst (ts.map V.ref++[.ref pv]))) (ts++[pv]) (R.2++[P.told (g++R.1)]):=pairedSn (pairedMem (fun a b m h=>kp a _ (hne a m).1 (v1 _ _ (u1 _ _ h))) hts) (.cons (kp pv _ npv w1) .nil)
  have gn2:=kp pn _ npn (v1 _ _ gn)
  dsimp only [gName]
  generalize upd J1 pt (.lst (ts.map V.ref++[.ref pv]))=J2 at f2' S2 P2 gn2 ⊢
  refine ⟨(by show 0<=sizeLine;decide),fun pq hpq=>?_⟩
  have t3:=z_d hpq (.lst [])
  have g3:=z_c (H:=J2) (a:=pq) (o:=.lst [])
  have npq:pq≠pt:=fun z=>by rw [z,f2'] at hpq;cases hpq
  have npqn:pq≠pn:=fun z=>by rw [z,gn2] at hpq;cases hpq
  dsimp only [gName]
  generalize upd J2 pq (.lst [])=J3 at t3 g3 ⊢
  have hps2:=hps.same (s1.trans S2)
  have lsr:sr.length=P.B:=by rw [hps.length];unfold srcI;rw [List.length_map,sl]
  refine ⟨_,rfl,ps,rfl,⟨_,SqL.of (t3 _ _ hps2.1)⟩,for_list (xs:=sr.map V.ref) (fun j σ J'=>∃ (y3 y4:Option V),σ=[some (.ref ps),some (.ref pf),some (.ref po),some (.ref bt),some (.int (2^P.W-1)),some (.ref pq),some (.ref pt),some (.ref rb),some (.ref pn),y3,y4]/\Same J2 J'/\J' pq=some (.lst (((P.nxt (g++R.1)).take j).map V.int))) ⟨_,_,rfl,t3,g3⟩ ?_ ?_ ?_⟩
  ·rintro j σ J' _ ⟨_,_,rfl,sj,_⟩
   exact SqL.of (sj _ _ hps2.1)
  ·rintro j v σ J' hv ⟨y3,y4,rfl,sj,fq⟩
   have hj:j<P.B:=by have:=(List.getElem?_eq_some_iff.mp hv).1;rw [List.length_map] at this;lia
   have hjs:j<(srcI P).length:=by unfold srcI;rw [List.length_map,sl];exact hj
   obtain ⟨rr,hr1,hr2⟩:=(hps2.same sj).get hjs
   rw [hr1] at hv
   cases hv
   obtain ⟨h1,h2⟩:=ok.s_lt hj
   have es0:(srcI P)[j]? = some (((P.s j).1:Int),((P.s j).2:Int)):=by
    unfold srcI Bx.s
    rw [List.getElem?_map,List.getD_eq_getElem?_getD,List.getElem?_eq_getElem (by lia)]
    rfl
   have es:(srcI P)[j]=(((P.s j).1:Int),((P.s j).2:Int)):=Option.some.inj ((List.getElem?_eq_getElem hjs).symm.trans es0)
   rw [es] at hr2
   refine ⟨rr,_,rfl,SqT.of hr2,rfl,_,_,rfl,_,_,rfl,rfl,?_⟩
   have gnj:=sj _ _ gn2
   refine ⟨_,rfl,.inl ⟨rfl,_,SqL.of fq⟩,_,rfl,_,rfl,pn,_,_,_,rfl,rfl,SqL.of gnj,atN (Jx:=J) h1,_,rfl,_,rfl,_,rfl,pn,_,_,_,rfl,rfl,SqL.of gnj,atN (Jx:=J) h1,_,_,rfl,rfl,(by show 2<=sizeLine;decide),fun p5 hp5=>?_⟩
   have t5:=z_d hp5 (.lst [.int ((g++R.1).getD (P.s j).1 0),.int (2^P.W-1-(g++R.1).getD (P.s j).1 0)])
   have g5:=z_c (H:=J') (a:=p5) (o:=.lst [.int ((g++R.1).getD (P.s j).1 0),.int (2^P.W-1-(g++R.1).getD (P.s j).1 0)])
   dsimp only
   generalize upd J' p5 (.lst [.int ((g++R.1).getD (P.s j).1 0),.int (2^P.W-1-(g++R.1).getD (P.s j).1 0)])=J5 at t5 g5 ⊢
   have hat:atI [V.int ((g++R.1).getD (P.s j).1 0),V.int (2^P.W-1-(g++R.1).getD (P.s j).1 0)] (((P.s j).2:Nat):Int)=some (.int (P.nx (g++R.1) j)):=by
    unfold Bx.nx
    rcases (show (P.s j).2=0\/(P.s j).2=1 by lia) with e | e
    ·rw [e,if_pos rfl];exact z_u rfl
    ·rw [e,if_neg (by decide)];exact z_u rfl
   have hnx:(P.nxt (g++R.1))[j]? = some (P.nx (g++R.1) j):=by unfold Bx.nxt;rw [List.getElem?_map,List.getElem?_range hj];rfl
   refine ⟨_,rfl,p5,_,_,_,rfl,rfl,SqL.of g5,hat,pq,_,_,rfl,rfl,t5 _ _ fq,y_j (by rw [List.length_map,List.length_take];lia),?_⟩
   refine ⟨_,_,rfl,sameUpd (sj.trans t5) hpq _,?_⟩
   rw [z_c,x_i hnx,List.map_append]
   rfl
  rintro σ J4 ⟨y3',y4',rfl,sj,fq⟩
  rw [List.length_map,lsr,List.take_of_length_le (by unfold Bx.nxt;rw [List.length_map,List.length_range];exact Nat.le_refl _)] at fq
  refine ⟨pq,ts++[pv],_,_,_,_,rfl,S2.trans sj,by rw [List.map_append];exact sj _ _ f2',?_,fun u hu=>?_,?_,npq⟩
  ·rw [esn]
   exact z_r (fun _ _ h=>sj _ _ h) P2
  ·rcases List.mem_append.mp hu with z | z
   ·exact hne u z
   ·rw [List.mem_singleton.mp z];exact ⟨npv,(SS.trans u1).free hpv⟩
  ·rw [esn]
   exact fq
 rintro σ H3 ⟨pst,ts,y1,y2,y3,y4,rfl,s',fp,hts,hne,fst,npt⟩
 rw [List.length_map,lB,List.take_length] at hts
 exact ⟨_,rfl,q pt ts _ hptH (fun u hu=>(hne u hu).2) (s1.trans s') ⟨fp,hts⟩⟩
theorem ok_law(T:Tx w K mg A)(G_L_bag:FnOk P w K mg base CX0 1 A.a_L_bag A.d_L_bag ["_law_script", "_law_at"] (sp_L_bag K))(G_L_pool:FnOk P w K mg base CX0 2 A.a_L_pool A.d_L_pool ["_law_bag_here", "_law_many"] sp_pool)(G_L_take:FnOk P w K mg base CX0 1 A.a_L_take A.d_L_take ["_law_bag_here", "_law_many"] sp_L_take)(G_L_run:FnOk P w K mg base CX0 1 A.a_L_run A.d_L_run ["_law_sources", "_law_firsts", "_law_outs", "_law_beats", "_law_top"] sp_Lrun)(G_run_plan:FnOk P w K mg base CX0 12 A.a_run_plan A.d_run_plan ["plan", "beats"] sp_run15)(G_L_same:FnOk P w K mg base CX0 6 A.a_L_same A.d_L_same ["_law_found", "_law_due"] (sp_same 3)):FnOk P w K mg base CX0 13 A.a_law A.d_law ["_law_script"] (sp_law K):=by
 refine T.F_law.ok sc_law (fun vs H Q E h=>?_) (fun cdv A' outer s H vs Q E hr h=>?_)
 ·obtain ⟨a,ns,rfl,hS,h63,q⟩:=h
  rfl
 obtain ⟨a,ns,rfl,hS,h63,q⟩:=h
 have hu64:=hr.units
 refine ⟨_,(z_b (z_p (i:=1) sc_law.nd rfl (Or.inr rfl) (z_l G_L_bag (hr.mono (by first | decide | lia)) rfl T.M_L_bag T.F_L_bag.kp T.B_L_bag .nil pass0 (z_a (pv 0) (z_a z_f z_e))))
  (z_b (z_p (i:=2) sc_law.nd rfl (Or.inr rfl) (z_l G_L_pool (hr.mono (by first | decide | lia)) rfl T.M_L_pool T.F_L_pool.kp T.B_L_pool .nil pass0 (z_a (pv 1) (z_a z_f z_e))))
  (z_b (z_p (i:=3) sc_law.nd rfl (Or.inr rfl) (z_t y_u z_f (z_l G_L_take (hr.mono (by first | decide | lia)) rfl T.M_L_take T.F_L_take.kp T.B_L_take .nil pass0 (z_a (pv 1) (z_a z_f z_e)))))
  (z_b (z_p (i:=4) sc_law.nd rfl (Or.inr rfl) (z_t y_u z_f (z_l G_L_take (hr.mono (by first | decide | lia)) rfl T.M_L_take T.F_L_take.kp T.B_L_take .nil pass0 (z_a (pv 1) (z_a z_f z_e)))))
  (z_b (z_p (i:=5) sc_law.nd rfl (Or.inr rfl) (z_t y_u z_f (z_l G_L_take (hr.mono (by first | decide | lia)) rfl T.M_L_take T.F_L_take.kp T.B_L_take .nil pass0 (z_a (pv 1) (z_a z_f z_e)))))
  (z_b (z_p (i:=2) sc_law.nd rfl (Or.inr rfl) (pe_slice sl_list (pv 2) po_none (po_some (z_t y_u (pv 4) (pv 5)))))
  (z_b (ps_comp [1,3] sc_law.nd (i:=6) rfl (Or.inl rfl) (fun _ _ h=>h) rfl (y_w rfl T.range (z_a (pv 5) z_e)) (fun _ _ _ _=>y_s) (fun _ _ _ _=>(z_l G_L_take (hr.mono (by first | decide | lia)) rfl T.M_L_take T.F_L_take.kp T.B_L_take .nil pass0 (z_a (pv 1) (z_a (z_t op_shl z_f (pv 2)) z_e)))) rfl (show ∀ j∈([1,3]:List Nat),j<23 by decide) (show (["_law_k", "_law_bag_here", "_law_width"]:List Str).Nodup by decide +kernel) (by with_unfolding_all rfl))
  (z_b (ps_comp [1,4,5] sc_law.nd (i:=7) rfl (Or.inl rfl) (fun _ _ h=>h) rfl (y_w rfl T.range (z_a (pv 5) z_e)) (fun _ _ _ _=>y_s) (fun _ _ _ _=>(y_v (z_a (z_l G_L_take (hr.mono (by first | decide | lia)) rfl T.M_L_take T.F_L_take.kp T.B_L_take .nil pass0 (z_a (pv 1) (z_a (z_t y_u (pv 2) (pv 3)) z_e))) (z_a (z_l G_L_take (hr.mono (by first | decide | lia)) rfl T.M_L_take T.F_L_take.kp T.B_L_take .nil pass0 (z_a (pv 1) (z_a z_f z_e))) z_e)))) rfl (show ∀ j∈([1,4,5]:List Nat),j<23 by decide) (show (["_law_k", "_law_bag_here", "_law_ins", "_law_boxes"]:List Str).Nodup by decide +kernel) (by with_unfolding_all rfl))
  (z_b (z_p (i:=8) sc_law.nd rfl (Or.inl rfl) (pe_lst z_e))
  (z_b (ps_for PassesOwn.never rfl (y_w rfl T.range (z_a (pv 5) z_e)) (y_g (i:=9) sc_law.nd rfl (Or.inl rfl))
    (z_b (z_p (i:=10) sc_law.nd rfl (Or.inl rfl) (y_v (z_a z_z (z_a (z_m z_o (pv 2) (z_m z_w (z_m z_o (pv 7) (pv 9) (fun _ _=>rfl)) z_f (fun _ _=>rfl)) (fun _ _=>rfl)) z_e))))
  (z_b (z_p (i:=11) sc_law.nd rfl (Or.inl rfl) (y_v (z_a z_z (z_a (z_m z_o (pv 2) (z_t y_u (pv 4) (pv 9)) (fun _ _=>rfl)) (z_a (pv 3) (z_a (z_m z_o (pv 6) (pv 9) (fun _ _=>rfl)) (z_a (z_m z_o (pe_lst (z_a (pv 10) (z_a (y_v (z_a z_z (z_a (pv 10) z_e))) z_e))) (z_m z_w (z_m z_o (pv 7) (pv 9) (fun _ _=>rfl)) z_f (fun _ _=>rfl)) (fun _ _=>rfl)) z_e)))))))
  (z_h (ps_expr (pe_bm PySem.F.plainAttrs_list PySem.F.slot_list_insert PySem.F.type_list_insert mt_insert (pv 8) (z_a (z_l G_L_take (hr.mono (by first | decide | lia)) rfl T.M_L_take T.F_L_take.kp T.B_L_take .nil pass0 (z_a (pv 1) (z_a (z_t y_u (pv 9) z_f) z_e))) (z_a (pv 11) z_e))))))))
  (z_b (z_p (i:=12) sc_law.nd rfl (Or.inr rfl) (z_l G_L_take (hr.mono (by first | decide | lia)) rfl T.M_L_take T.F_L_take.kp T.B_L_take .nil pass0 (z_a (pv 1) (z_a (z_t y_u (pv 4) (pv 5)) z_e))))
  (z_b (ps_comp [12,4,5] sc_law.nd (i:=13) rfl (Or.inl rfl) (fun _ _ h=>h) rfl (y_w rfl T.range (z_a (z_x (call_min2 rfl) rfl T.min PyProof.Rows.boot_min (z_a z_f (z_a (z_t y_u z_f (z_l G_L_take (hr.mono (by first | decide | lia)) rfl T.M_L_take T.F_L_take.kp T.B_L_take .nil pass0 (z_a (pv 1) (z_a (z_t y_u (pv 4) (pv 5)) z_e)))) z_e))) z_e)) (fun _ _ _ _=>y_s) (fun _ _ _ _=>(z_t op_mod (z_t y_u (pv 1) (pv 0)) (z_t y_u (pv 2) (pv 3)))) rfl (show ∀ j∈([12,4,5]:List Nat),j<23 by decide) (show (["_law_k", "_law_at", "_law_ins", "_law_boxes"]:List Str).Nodup by decide +kernel) (by with_unfolding_all rfl))
  (z_b (z_p (i:=14) sc_law.nd rfl (Or.inl rfl) (y_i call_tuple_of rfl T.tuple PyProof.Rows.boot_tuple (z_a (pe_comp [2,3] (fun _ _ h=>h) rfl (y_w rfl T.range (z_a (pv 4) z_e)) (fun _ _ _ _=>y_s) (fun _ _ _ _=>(y_v (z_a (z_m (ix_listK (K:=K) rfl) (pv 1) (pv 0) (fun _ _=>rfl)) (z_a (pv 2) z_e)))) rfl (show ∀ j∈([2,3]:List Nat),j<23 by decide) (show (["_law_k", "_law_names", "_law_width"]:List Str).Nodup by decide +kernel)) z_e)))
  (z_b (z_p (i:=15) sc_law.nd rfl (Or.inl rfl) (pe_lst (z_a (y_v (z_a z_z (z_a (pv 14) (z_a (y_i call_tuple_of rfl T.tuple PyProof.Rows.boot_tuple (z_a (pe_comp [2,3] (fun _ _ h=>h) rfl (y_r (pv 13)) (fun _ _ _ _=>y_s) (fun _ _ _ _=>(y_v (z_a (z_m (ix_listK (K:=K) rfl) (pv 1) (pv 0) (fun _ _=>rfl)) (z_a (pv 2) z_e)))) rfl (show ∀ j∈([2,3]:List Nat),j<23 by decide) (show (["_law_k", "_law_names", "_law_width"]:List Str).Nodup by decide +kernel)) z_e)) (z_a (y_i call_tuple_of rfl T.tuple PyProof.Rows.boot_tuple (z_a (pv 8) z_e)) z_e))))) z_e)))
  (z_b (z_p (i:=16) sc_law.nd rfl (Or.inr rfl) (z_l G_L_bag (hr.mono (by first | decide | lia)) rfl T.M_L_bag T.F_L_bag.kp T.B_L_bag .nil pass0 (z_a (pv 0) (z_a z_f z_e))))
  (z_b (ps_comp [16,3,4] sc_law.nd (i:=17) rfl (Or.inl rfl) (fun _ _ h=>h) rfl (y_w rfl T.range (z_a (z_l G_L_take (hr.mono (by first | decide | lia)) rfl T.M_L_take T.F_L_take.kp T.B_L_take .nil pass0 (z_a (pv 16) (z_a z_f z_e))) z_e)) (fun _ _ _ _=>y_s) (fun _ _ _ _=>(pe_comp [1,2] (fun _ _ h=>h) rfl (y_w rfl T.range (z_a (pv 3) z_e)) (fun _ _ _ _=>y_s) (fun _ _ _ _=>(z_l G_L_take (hr.mono (by first | decide | lia)) rfl T.M_L_take T.F_L_take.kp T.B_L_take .nil pass0 (z_a (pv 1) (z_a (z_t op_shl z_f (pv 2)) z_e)))) rfl (show ∀ j∈([1,2]:List Nat),j<4 by decide) (show (["_law_k", "_law_more", "_law_width"]:List Str).Nodup by decide +kernel))) rfl (show ∀ j∈([16,3,4]:List Nat),j<23 by decide) (show (["_law_j", "_law_more", "_law_width", "_law_ins"]:List Str).Nodup by decide +kernel) (by with_unfolding_all rfl))
  (z_b (z_p (i:=18) sc_law.nd rfl (Or.inl rfl) (z_l G_L_run (hr.mono (by first | decide | lia)) rfl T.M_L_run T.F_L_run.kp T.B_L_run .nil pass0 (z_a (pv 7) (z_a (pv 6) (z_a (pv 13) (z_a (pv 17) (z_a (z_t op_sub (z_t op_shl z_f (pv 3)) z_f) z_e)))))))
  (z_b (z_p (i:=19) sc_law.nd rfl (Or.inl rfl) (pe_lst (z_a (y_i call_list_of rfl T.list PyProof.Rows.boot_list (z_a (pv 15) z_e)) (z_a (pe_comp [] (fun _ _ h=>h) rfl (y_r (pv 17)) (fun _ _ _ _=>y_s) (fun _ _ _ _=>(y_i (call_list_ofK (K:=K) rfl) rfl T.list PyProof.Rows.boot_list (z_a (pv 0) z_e))) rfl (show ∀ j∈([]:List Nat),j<23 by decide) (show (["_law_given"]:List Str).Nodup by decide +kernel)) z_e))))
  (z_b (z_p (i:=20) sc_law.nd rfl (Or.inl rfl) (z_l G_run_plan (hr.mono (by first | decide | lia)) rfl T.M_run_plan T.F_run_plan.kp T.B_run_plan .nil pass0 (z_a (z_m z_o (pv 19) z_f (fun _ _=>rfl)) (z_a (z_m z_o (pv 19) z_f (fun _ _=>rfl)) z_e))))
  (z_b (y_x (PW.pt (pw_or (pt_not (pt_truth (z_l G_L_same (hr.mono (by first | decide | lia)) rfl T.M_L_same T.F_L_same.kp T.B_L_same .nil pass0 (z_a (pv 20) (z_a (pv 18) z_e))) (fun _=>rfl))) (pw_or1 (z_q (op_neD hu64) (pv 19) (pe_lst (z_a (pv 15) (z_a (pv 17) z_e))) (nomark _))))) (z_h (z_v pe_bl)) z_y)
  (z_b (ps_for PassesOwn.never rfl (y_r (pv 20)) (y_g (i:=21) sc_law.nd rfl (Or.inl rfl))
    (z_h (ps_expr (pe_bm PySem.F.plainAttrs_list PySem.F.slot_list_append PySem.F.type_list_append mt_append (pv 21) (z_a z_f z_e)))))
  (z_b (ps_expr (pe_bm PySem.F.plainAttrs_list PySem.F.slot_list_append PySem.F.type_list_append mt_append (pv 20) (z_a (pe_lst z_e) z_e)))
  (z_b (z_p (i:=22) sc_law.nd rfl (Or.inl rfl) (z_l G_L_take (hr.mono (by first | decide | lia)) rfl T.M_L_take T.F_L_take.kp T.B_L_take .nil pass0 (z_a (pv 16) (z_a (z_t y_u (z_x y_y rfl T.len PySem.boot_len (z_a (pv 17) z_e)) z_f) z_e))))
  (z_h (z_v (pe_and (z_l G_L_same (hr.mono (by first | decide | lia)) rfl T.M_L_same T.F_L_same.kp T.B_L_same .nil pass0 (z_a (z_l G_run_plan (hr.mono (by first | decide | lia)) rfl T.M_run_plan T.F_run_plan.kp T.B_run_plan .nil pass0 (z_a (z_m z_o (pv 19) z_f (fun _ _=>rfl)) (z_a (pe_slice sl_list (pv 17) po_none (po_some (pv 22))) z_e))) (z_a (pe_slice sl_list (pv 18) po_none (po_some (pv 22))) z_e))) (pe_one (z_l G_L_same (hr.mono (by first | decide | lia)) rfl T.M_L_same T.F_L_same.kp T.B_L_same .nil pass0 (z_a (z_l G_run_plan (hr.mono (by first | decide | lia)) rfl T.M_run_plan T.F_run_plan.kp T.B_run_plan .nil pass0 (z_a (pv 15) (z_a (pv 17) z_e))) (z_a (pv 18) z_e)))))))))))))))))))))))))))))),?_⟩
 refine ⟨_,rfl,a,ns,0,rfl,hS,h63,by decide,fun l b0 b1 hl hb0=>?_⟩
 have s1:=z_d hl (.lst [.int b0,.int b1])
 have B1:Bag (upd H l (.lst [.int b0,.int b1])) l:=⟨b0,b1,z_c,hb0⟩
 show tSeq _ _ _ [some (.ref a),some (.ref l),none,none,none,none,none,none,none,none,none,none,none,none,none,none,none,none,none,none,none,none,none] (upd H l (.lst [.int b0,.int b1]))
 generalize upd H l (.lst [.int b0,.int b1])=H1 at s1 B1 ⊢
 refine ⟨_,rfl,l,12,rfl,B1,by decide,fun pn zs H2 hzl hnd hzs npn hpn g2 fn=>?_⟩
 have S2:Same H H2:=Bg.same hl s1 g2
 refine ⟨_,rfl,l,8,rfl,g2.2,by decide,by decide,fun d H3 d0 d1 g3=>⟨_,_,rfl,rfl,?_⟩⟩
 obtain ⟨wn,rfl⟩:=Int.eq_ofNat_of_zero_le d0
 refine ⟨_,rfl,l,3,rfl,g3.2,by decide,by decide,fun d H4 e0 e1 g4=>⟨_,_,rfl,rfl,?_⟩⟩
 obtain ⟨inn,rfl⟩:=Int.eq_ofNat_of_zero_le e0
 refine ⟨_,rfl,l,8,rfl,g4.2,by decide,by decide,fun d H5 f0 f1 g5=>⟨_,_,rfl,rfl,?_⟩⟩
 obtain ⟨bn,rfl⟩:=Int.eq_ofNat_of_zero_le f0
 have g25:=g3.trans (g4.trans g5)
 have S5:Same H H5:=Bg.same hl S2 g25
 have fn5:=g25.1 _ _ npn fn
 have B5:=g5.2
 dsimp only
 rw [show (1:Int)+(wn:Int)=((1+wn:Nat):Int) by lia,show (1:Int)+(inn:Int)=((1+inn:Nat):Int) by lia,show (1:Int)+(bn:Int)=((1+bn:Nat):Int) by lia]
 obtain ⟨W,hW⟩:∃ W,W=1+wn:=⟨_,rfl⟩
 obtain ⟨I,hI⟩:∃ I,I=1+inn:=⟨_,rfl⟩
 obtain ⟨B,hB⟩:∃ B,B=1+bn:=⟨_,rfl⟩
 rw [<-hW,<-hI,<-hB]
 have W8:1<=W/\W<=8:=by lia
 have I3:1<=I/\I<=3:=by lia
 have B8:1<=B/\B<=8:=by lia
 clear hW hI hB g2 g3 g4 g5 g25 fn d0 d1 e0 e1 f0 f1 B1 s1
 show tSeq _ _ _ [some (.ref a),some (.ref l),some (.ref pn),some (.int (W:Int)),some (.int (I:Int)),some (.int (B:Int)),none,none,none,none,none,none,none,none,none,none,none,none,none,none,none,none,none] H5
 refine ⟨_,rfl,_,rfl,_,rfl,_,_,rfl,rfl,_,rfl,pn,_,rfl,SqL.of fn5,fun pm hpm=>?_⟩
 rw [show ((I:Int)+(B:Int))=((I+B:Nat):Int) by lia,cut_to (by rw [List.length_map];lia),<-List.map_take]
 obtain ⟨nm,hnm⟩:∃ nm,nm=zs.take (I+B):=⟨_,rfl⟩
 rw [<-hnm]
 have nml:nm.length=I+B:=by rw [hnm,List.length_take];lia
 have nmd:nm.Nodup:=by rw [hnm];exact List.Pairwise.sublist (List.take_sublist _ _) hnd
 have nms:∀ z∈nm,z.length<=20:=fun z hz=>by rw [hnm] at hz;exact (hzs z (List.mem_of_mem_take hz)).1
 have nmk:∀ z∈nm,PyData.strOk z=true:=fun z hz=>by rw [hnm] at hz;exact (hzs z (List.mem_of_mem_take hz)).2
 have t6:=z_d hpm (.lst (nm.map V.str))
 have fm:=z_c (H:=H5) (a:=pm) (o:=.lst (nm.map V.str))
 have B6:=B5.set (B5.ne hpm) (.lst (nm.map V.str))
 have npm:=B5.ne hpm
 have S6:=S5.trans t6
 show tSeq _ _ _ [some (.ref a),some (.ref l),some (.ref pm),some (.int (W:Int)),some (.int (I:Int)),some (.int (B:Int)),none,none,none,none,none,none,none,none,none,none,none,none,none,none,none,none,none] (upd H5 pm (.lst (nm.map V.str)))
 generalize upd H5 pm (.lst (nm.map V.str))=H6 at t6 fm B6 S6 ⊢
 clear t6 fn5 B5 S5 hpm hpn hzl hnd hzs hnm npn
 have powW:(0:Int)<1*2^(W:Int).toNat/\(1:Int)*2^(W:Int).toNat<bigB:=by
  rw [Int.one_mul,Int.toNat_natCast]
  exact ⟨pow_pos2 W,Int.lt_of_le_of_lt (pow_le2 (by lia)) (by decide)⟩
 refine ⟨_,rfl,_,rfl,by lia,by lia,comp_range (lo:=0) (fun i ys H'=>Bg l H6 H'/\∃ fs:List Int,ys=fs.map V.int/\fs.length=i) ⟨Bg.refl B6,[],rfl,rfl⟩ ?_ ?_ ?_⟩
 ·rintro i ys H' hi ⟨g,fs,rfl,hfl⟩
  rw [List.length_map]
  exact y_j (by lia)
 ·rintro i ys H' hi ⟨g,fs,rfl,hfl⟩
  unfold tYes
  refine iteT ⟨_,rfl,_,rfl,_,_,rfl,rfl,⟨by lia,by lia,by decide⟩,l,_,rfl,g.2,powW.1,powW.2,fun e H'' e0 e1 g'=>?_⟩
  exact ⟨g.trans g',fs++[e],by rw [List.map_append];rfl,by rw [List.length_append,hfl];rfl⟩
 rintro ys H7 ⟨g7,fs,rfl,hfl⟩ pf hpf
 have S7:Same H H7:=Bg.same hl S6 g7
 have fm7:=g7.1 _ _ npm fm
 have t8:=z_d hpf (.lst (fs.map V.int))
 have ff:=z_c (H:=H7) (a:=pf) (o:=.lst (fs.map V.int))
 have npf:=g7.2.ne hpf
 have B8':=g7.2.set npf (.lst (fs.map V.int))
 have S8:=S7.trans t8
 have fm8:=t8 _ _ fm7
 show tSeq _ _ _ [some (.ref a),some (.ref l),some (.ref pm),some (.int (W:Int)),some (.int (I:Int)),some (.int (B:Int)),some (.ref pf),none,none,none,none,none,none,none,none,none,none,none,none,none,none,none,none] (upd H7 pf (.lst (fs.map V.int)))
 generalize upd H7 pf (.lst (fs.map V.int))=H8 at t8 ff B8' S8 fm8 ⊢
 have hfB:fs.length=B:=by rw [hfl];lia
 clear t8 S7 fm7 g7 hpf S6 fm B6 hfl
 refine ⟨_,rfl,_,rfl,by lia,by lia,comp_range (lo:=0) (fun i ys H'=>Bg l H8 H'/\∃ (ts:List Addr) (sr:List (Nat×Nat)),ys=ts.map V.ref/\sr.length=i/\Paired (fun r (p:Int×Int)=>H' r=some (.tup [.int p.1,.int p.2])) ts (sr.map fun s=>(((s.1:Nat):Int),((s.2:Nat):Int)))/\∀ s∈sr,s.1<I+B/\s.2<2) ⟨Bg.refl B8',[],[],rfl,rfl,.nil,(fun _ h=>nomatch h)⟩ ?_ ?_ ?_⟩
 ·rintro i ys H' hi ⟨g,ts,sr,rfl,hsl,hts,_⟩
  have:=Paired.length hts
  rw [List.length_map] at this ⊢
  exact y_j (by lia)
 ·rintro i ys H' hi ⟨g,ts,sr,rfl,hsl,hts,hsr⟩
  unfold tYes
  refine iteT ⟨_,rfl,_,rfl,_,rfl,_,_,rfl,rfl,l,_,rfl,g.2,by lia,(Int.lt_trans (show (I:Int)+(B:Int)<100 by lia) (by decide)),fun e H'' e0 e1 g'=>?_⟩
  refine ⟨_,rfl,l,2,rfl,g'.2,by decide,by decide,fun f H3 f0 f1 g''=>?_⟩
  obtain ⟨e,rfl⟩:=Int.eq_ofNat_of_zero_le e0
  obtain ⟨f,rfl⟩:=Int.eq_ofNat_of_zero_le f0
  refine ⟨(by show 2<=sizeLine;decide),fun t ht=>?_⟩
  have gg:=g'.trans g''
  have G:=g.trans gg
  refine ⟨G.trans (Bg.new G.2 ht _),ts++[t],sr++[(e,f)],by rw [List.map_append];rfl,by rw [List.length_append,hsl];rfl,?_,fun s hs=>?_⟩
  ·rw [List.map_append]
   exact pairsNew _ _ (z_r (fun r p z=>gg.1 _ _ (g.2.neT z) z) hts) ht
  ·rcases List.mem_append.mp hs with z | z
   ·exact hsr s z
   ·rw [List.mem_singleton.mp z]
    exact ⟨by show e<I+B;lia,by show f<2;lia⟩
 rintro ys H9 ⟨g9,ts,sr,rfl,hsl,hts,hsr⟩ ps hps
 have S9:Same H H9:=Bg.same hl S8 g9
 have fm9:=g9.1 _ _ npm fm8
 have ff9:=g9.1 _ _ npf ff
 have nps:=g9.2.ne hps
 have PP:=PrsR.mk hts hps
 have t10:=z_d hps (.lst (ts.map V.ref))
 have B10:=g9.2.set nps (.lst (ts.map V.ref))
 have S10:=S9.trans t10
 have fm10:=t10 _ _ fm9
 have ff10:=t10 _ _ ff9
 show tSeq _ _ _ [some (.ref a),some (.ref l),some (.ref pm),some (.int (W:Int)),some (.int (I:Int)),some (.int (B:Int)),some (.ref pf),some (.ref ps),none,none,none,none,none,none,none,none,none,none,none,none,none,none,none] (upd H9 ps (.lst (ts.map V.ref)))
 generalize upd H9 ps (.lst (ts.map V.ref))=H10 at t10 PP B10 S10 fm10 ff10 ⊢
 have hsB:sr.length=B:=by rw [hsl];lia
 clear t10 S9 fm9 ff9 g9 hps hts S8 fm8 ff B8' hsl
 refine ⟨(by show 0<=sizeLine;decide),fun pr hpr=>?_⟩
 have npr:=B10.ne hpr
 have t11:=z_d hpr (.lst [])
 have B11:=B10.set npr (.lst [])
 have S11:=S10.trans t11
 have fm11:=t11 _ _ fm10
 have ff11:=t11 _ _ ff10
 have PP11:=PP.same t11
 have fr11:=z_c (H:=H10) (a:=pr) (o:=.lst [])
 have nrm:pm≠pr:=z_n fm10 hpr
 have nrf:pf≠pr:=z_n ff10 hpr
 have nrs:ps≠pr:=z_n PP.1 hpr
 have hprH:H pr=none:=S10.free hpr
 show tSeq _ _ _ [some (.ref a),some (.ref l),some (.ref pm),some (.int (W:Int)),some (.int (I:Int)),some (.int (B:Int)),some (.ref pf),some (.ref ps),some (.ref pr),none,none,none,none,none,none,none,none,none,none,none,none,none,none] (upd H10 pr (.lst []))
 generalize upd H10 pr (.lst [])=H11 at t11 B11 S11 fm11 ff11 PP11 fr11 ⊢
 clear t11 S10 fm10 ff10 PP B10 hpr
 obtain ⟨P0,hP0⟩:∃ P0:Bx,P0=⟨nm,I,B,W,fs,sr,[],[]⟩:=⟨_,rfl⟩
 have hn0:∀ {j:Nat},j<I+B->(nm.map V.str)[j]? = some (.str (P0.n j)):=fun {j} hj=>by
  rw [hP0]
  show _=some (V.str (nm.getD j ""))
  rw [List.getElem?_map,List.getD_eq_getElem?_getD,List.getElem?_eq_getElem (by lia)]
  rfl
 have hf0:∀ {k:Nat},k<B->(fs.map V.int)[k]? = some (.int (P0.f k)):=fun {k} hk=>by
  rw [hP0]
  show _=some (V.int (fs.getD k 0))
  rw [List.getElem?_map,List.getD_eq_getElem?_getD,List.getElem?_eq_getElem (by lia)]
  rfl
 have hsl0:(srcI P0).length=B:=by rw [hP0];show (sr.map _).length=B;rw [List.length_map,hsB]
 have hs0:∀ {k:Nat} (hk:k<(srcI P0).length),(srcI P0)[k]=(((P0.s k).1:Int),((P0.s k).2:Int)):=fun {k} hk=>by
  refine Option.some.inj ((List.getElem?_eq_getElem hk).symm.trans ?_)
  rw [hsl0] at hk
  rw [hP0]
  show (sr.map _)[k]? = some ((((sr.getD k (0,0)).1:Nat):Int),(((sr.getD k (0,0)).2:Nat):Int))
  rw [List.getElem?_map,List.getD_eq_getElem?_getD,List.getElem?_eq_getElem (by lia)]
  rfl
 have hsr0:∀ {k:Nat},k<B->(P0.s k).1<I+B/\(P0.s k).2<2:=fun {k} hk=>by
  rw [hP0]
  show (sr.getD k (0,0)).1<_/\(sr.getD k (0,0)).2<2
  rw [List.getD_eq_getElem?_getD,List.getElem?_eq_getElem (by lia)]
  exact hsr _ (List.getElem_mem _)
 have eI:P0.I=I:=by rw [hP0]
 have eW:P0.W=W:=by rw [hP0]
 have PP0:PrsR H11 ps ts (srcI P0):=by rw [hP0];exact PP11
 have nL:∀ k,noL (P0.row k)=true:=fun k=>by
  show noLs [_,_,_,_,P0.say k]=true
  simp [noLs,noL,Bx.noL_say]
 refine ⟨_,rfl,_,rfl,by lia,by lia,for_range (lo:=0) (fun i σ H'=>∃ (z9 z10 z11:Option V) (od:List Nat) (xs:List V),σ=[some (.ref a),some (.ref l),some (.ref pm),some (.int (W:Int)),some (.int (I:Int)),some (.int (B:Int)),some (.ref pf),some (.ref ps),some (.ref pr),z9,z10,z11,none,none,none,none,none,none,none,none,none,none,none]/\Same H H'/\Bag H' l/\H' pm=some (.lst (nm.map V.str))/\H' pf=some (.lst (fs.map V.int))/\PrsR H' ps ts (srcI P0)/\H' pr=some (.lst xs)/\Dats H' (od.map P0.row) xs/\od.length=i/\(∀ k∈od,k<i)/\∀ k,k<i->k∈od) ⟨_,_,_,[],[],rfl,S11,B11,fm11,ff11,PP0,fr11,.nil,rfl,(fun _ h=>nomatch h),fun k hk=>absurd hk (Nat.not_lt_zero _)⟩ ?_ ?_⟩
 ·rintro i σ H' hi ⟨z9,z10,z11,od,xs,rfl,S',B',fm',ff',PP',fr',hD',hol,ho1,ho2⟩
  have hiB:i<B:=by lia
  obtain ⟨h1,h2⟩:=hsr0 hiB
  obtain ⟨rr,hr1,hr2⟩:=PP'.get (i:=i) (by rw [hsl0];exact hiB)
  rw [hs0] at hr2
  have lxs:=hD'.length
  rw [List.length_map,hol] at lxs
  refine ⟨_,rfl,_,rfl,_,rfl,ps,_,_,_,rfl,rfl,SqL.of PP'.1,at0M hr1,rr,_,_,_,rfl,rfl,SqT.of hr2,rfl,pm,_,_,_,rfl,rfl,SqL.of fm',z_u (hn0 h1),(by show 2<=sizeLine;decide),fun pw hpw=>?_⟩
  have t1:=z_d hpw (.tup [.str "wire",.str (P0.n (P0.s i).1)])
  have gw:=z_c (H:=H') (a:=pw) (o:=.tup [.str "wire",.str (P0.n (P0.s i).1)])
  show tSeq _ _ _ [some (.ref a),some (.ref l),some (.ref pm),some (.int (W:Int)),some (.int (I:Int)),some (.int (B:Int)),some (.ref pf),some (.ref ps),some (.ref pr),some (.int (0+(i:Int))),some (.ref pw),z11,none,none,none,none,none,none,none,none,none,none,none] (upd H' pw (.tup [.str "wire",.str (P0.n (P0.s i).1)]))
  generalize upd H' pw (.tup [.str "wire",.str (P0.n (P0.s i).1)])=J1 at t1 gw ⊢
  have e1:((I:Int)+(0+(i:Int)))=((I+i:Nat):Int):=by lia
  refine ⟨_,rfl,_,rfl,_,rfl,_,_,rfl,rfl,pm,_,_,_,rfl,rfl,SqL.of (t1 _ _ fm'),(by rw [e1];exact z_u (hn0 (by lia))),_,rfl,_,rfl,_,rfl,pf,_,_,_,rfl,rfl,SqL.of (t1 _ _ ff'),at0M (hf0 hiB),_,rfl,_,rfl,(by show 2<=sizeLine;decide),fun pt hpt=>?_⟩
  have t2:=z_d hpt (.tup [.str "not",.ref pw])
  have gt:=z_c (H:=J1) (a:=pt) (o:=.tup [.str "not",.ref pw])
  generalize upd J1 pt (.tup [.str "not",.ref pw])=J2 at t2 gt ⊢
  refine ⟨(by show 2<=sizeLine;decide),fun pv hpv=>?_⟩
  have t3:=z_d hpv (.lst [.ref pw,.ref pt])
  have gv:=z_c (H:=J2) (a:=pv) (o:=.lst [.ref pw,.ref pt])
  generalize upd J2 pv (.lst [.ref pw,.ref pt])=J3 at t3 gv ⊢
  have t13:=t1.trans (t2.trans t3)
  have hsay:∃ sv,atI [V.ref pw,V.ref pt] (((P0.s i).2:Nat):Int)=some sv/\Dat J3 (P0.say i) sv:=by
   unfold Bx.say
   rcases (show (P0.s i).2=0\/(P0.s i).2=1 by lia) with e | e
   ·rw [e,if_pos rfl]
    exact ⟨.ref pw,z_u rfl,Dat.tup (t3 _ _ (t2 _ _ gw)) (.cons (Dat.str _) (.cons (Dat.str _) .nil))⟩
   ·rw [e,if_neg (by decide)]
    exact ⟨.ref pt,z_u rfl,Dat.tup (t3 _ _ gt) (.cons (Dat.str _) (.cons (Dat.tup (t3 _ _ (t2 _ _ gw)) (.cons (Dat.str _) (.cons (Dat.str _) .nil))) .nil))⟩
  obtain ⟨sv,hsv,hDs⟩:=hsay
  refine ⟨_,rfl,_,rfl,ps,_,_,_,rfl,rfl,SqL.of (t13 _ _ PP'.1),at0M hr1,rr,_,_,_,rfl,rfl,SqT.of (t13 _ _ hr2),rfl,pv,_,_,_,rfl,rfl,SqL.of gv,hsv,(by show 5<=sizeLine;decide),fun pz hpz=>?_⟩
  have t4:=z_d hpz (.tup [.str "box",.str (P0.n (I+i)),.int (W:Int),.int (P0.f i),sv])
  have gz:=z_c (H:=J3) (a:=pz) (o:=.tup [.str "box",.str (P0.n (I+i)),.int (W:Int),.int (P0.f i),sv])
  show tSeq _ _ _ [some (.ref a),some (.ref l),some (.ref pm),some (.int (W:Int)),some (.int (I:Int)),some (.int (B:Int)),some (.ref pf),some (.ref ps),some (.ref pr),some (.int (0+(i:Int))),some (.ref pw),some (.ref pz),none,none,none,none,none,none,none,none,none,none,none] (upd J3 pz (.tup [.str "box",.str (P0.n (I+i)),.int (W:Int),.int (P0.f i),sv]))
  generalize upd J3 pz (.tup [.str "box",.str (P0.n (I+i)),.int (W:Int),.int (P0.f i),sv])=J4 at t4 gz ⊢
  have t14:=t13.trans t4
  have hrow:Dat J4 (P0.row i) (.ref pz):=by
   refine Dat.tup gz (.cons (Dat.str _) (.cons ?_ (.cons ?_ (.cons (Dat.int _) (.cons (hDs.same t4) .nil)))))
   ·rw [eI];exact Dat.str _
   ·rw [eW];exact Dat.int _
  have gB:=B'.same t14
  refine ⟨_,rfl,.inl ⟨rfl,_,SqL.of (t14 _ _ fr')⟩,_,rfl,_,rfl,_,_,rfl,rfl,l,_,rfl,gB.2,by lia,(Int.lt_trans (show (0+(i:Int))+1<100 by lia) (by decide)),fun j J5 j0 j1 g5=>?_⟩
  obtain ⟨j,rfl⟩:=Int.eq_ofNat_of_zero_le j0
  have npr5:pr≠l:=npr
  have kT:=g5.keepT gB.2
  have fr5:=g5.1 _ _ npr (t14 _ _ fr')
  have hD5:Dats J5 (od.map P0.row) xs:=Dats.keepT kT (noLs_all fun d hd=>by obtain ⟨k,_,rfl⟩:=List.mem_map.mp hd;exact nL k) (hD'.same t14)
  have hrow5:=Dat.keepT kT (nL i) hrow
  refine ⟨_,rfl,pr,_,_,_,rfl,rfl,fr5,by lia,by lia,y_j (by lia),?_⟩
  rw [Int.toNat_natCast]
  have kR:KeepT J5 (upd J5 pr (.lst (xs.take j++V.ref pz::xs.drop j))):=KeepT.lst fr5 _
  have G1:Bg l J4 (upd J5 pr (.lst (xs.take j++V.ref pz::xs.drop j)))->True:=fun _=>trivial
  have kN:∀ {b:Addr} {o:HO},b≠l->b≠pr->H' b=some o->(upd J5 pr (.lst (xs.take j++V.ref pz::xs.drop j))) b=some o:=fun {b o} n1 n2 e=>by rw [z_s n2];exact g5.1 _ _ n1 (t14 _ _ e)
  refine ⟨_,_,_,od.take j++i::od.drop j,_,rfl,fun b o e=>?_,g5.2.set npr _,kN npm nrm fm',kN npf nrf ff',⟨kN nps nrs PP'.1,z_r (fun r p z=>kN (B'.neT z) (fun y=>by rw [y,fr'] at z;cases z) z) PP'.2⟩,z_c,?_,?_,fun k hk=>?_,fun k hk=>?_⟩
  ·rw [z_s (z_n e hprH)]
   exact g5.1 _ _ (z_n e hl) (t14 _ _ (S' _ _ e))
  ·rw [List.map_append,List.map_cons,List.map_take,List.map_drop]
   refine Dats.keepT kR (noLs_all fun d hd=>?_) ((hD5.take j).append (.cons hrow5 (hD5.drop j)))
   rw [<-List.map_take,<-List.map_drop,<-List.map_cons,<-List.map_append] at hd
   obtain ⟨k,_,rfl⟩:=List.mem_map.mp hd
   exact nL k
  ·rw [List.length_append,List.length_cons,List.length_take,List.length_drop]
   lia
  ·rcases List.mem_append.mp hk with z | z
   ·have:=ho1 k (List.mem_of_mem_take z);lia
   ·rcases List.mem_cons.mp z with z | z
    ·lia
    ·have:=ho1 k (List.mem_of_mem_drop z);lia
  ·by_cases c:k=i
   ·subst c
    exact List.mem_append_right _ List.mem_cons_self
   ·have hm:=ho2 k (by lia)
    rw [<-List.take_append_drop j od] at hm
    rcases List.mem_append.mp hm with z | z
    ·exact List.mem_append_left _ z
    ·exact List.mem_append_right _ (List.mem_cons_of_mem _ z)
 rintro σ H12 ⟨z9,z10,z11,od,xs,rfl,S12,B12,fm12,ff12,PP12,fr12,hD12,hol,ho1,ho2⟩
 rw [Int.toNat_natCast] at hol ho1 ho2
 have npr5:=npr
 refine ⟨_,rfl,_,rfl,_,rfl,_,_,rfl,rfl,l,_,rfl,B12,by lia,(Int.lt_trans (show (I:Int)+(B:Int)<100 by lia) (by decide)),fun at_ H13 a0 a1 g13=>?_⟩
 obtain ⟨at_,rfl⟩:=Int.eq_ofNat_of_zero_le a0
 refine ⟨_,rfl,_,rfl,_,rfl,_,_,rfl,rfl,l,_,rfl,g13.2,by lia,(Int.lt_trans (show (I:Int)+(B:Int)<100 by lia) (by decide)),fun mo H14 m0 m1 g14=>?_⟩
 have g24:=g13.trans g14
 have S14:Same H H14:=Bg.same hl S12 g24
 have fm14:=g24.1 _ _ npm fm12
 have ff14:=g24.1 _ _ npf ff12
 have PP14:PrsR H14 ps ts (srcI P0):=⟨g24.1 _ _ nps PP12.1,z_r (fun r p z=>g24.1 _ _ (B12.neT z) z) PP12.2⟩
 have fr14:=g24.1 _ _ npr fr12
 have hD14:Dats H14 (od.map P0.row) xs:=Dats.keepT (g24.keepT B12) (noLs_all fun d hd=>by obtain ⟨k,_,rfl⟩:=List.mem_map.mp hd;exact nL k) hD12
 clear g13 g14 g24 S12 fm12 ff12 PP12 fr12 hD12 B12
 refine ⟨_,_,rfl,rfl,_,_,rfl,_,rfl,?_,?_,comp_range (lo:=0) (fun i ys H'=>H14=H'/\∃ os:List Nat,ys=(os.map fun k=>((k:Nat):Int)).map V.int/\os.length=i/\∀ o∈os,o<I+B) ⟨rfl,[],rfl,rfl,(fun _ h=>nomatch h)⟩ ?_ ?_ ?_⟩
 ·split<;>lia
 ·split<;>lia
 ·rintro i ys H' hi ⟨rfl,os,rfl,hos,_⟩
  rw [List.length_map,List.length_map]
  refine y_j ?_
  split at hi<;>lia
 ·rintro i ys H' hi ⟨rfl,os,rfl,hos,hoo⟩
  unfold tYes
  refine iteT ⟨_,rfl,_,rfl,_,_,rfl,rfl,_,rfl,_,rfl,_,_,rfl,rfl,_,_,rfl,rfl,by lia,?_⟩
  have e1:((at_:Int)+(0+(i:Int)))%((I:Int)+(B:Int))=(((at_+i)%(I+B):Nat):Int):=by
   rw [show ((at_:Int)+(0+(i:Int)))=((at_+i:Nat):Int) by lia,show ((I:Int)+(B:Int))=((I+B:Nat):Int) by lia,<-Int.natCast_emod]
  dsimp only
  rw [e1]
  refine ⟨rfl,os++[(at_+i)%(I+B)],by rw [List.map_append,List.map_append];rfl,by rw [List.length_append,hos];rfl,fun o ho=>?_⟩
  rcases List.mem_append.mp ho with z | z
  ·exact hoo o z
  ·rw [List.mem_singleton.mp z]
   exact Nat.mod_lt _ (by lia)
 rintro ys H' ⟨rfl,os,rfl,hos,hoo⟩ po hpo
 have hos8:os.length<=8:=by
  rw [hos]
  split<;>lia
 clear hos m0 m1
 have t15:=z_d hpo (.lst ((os.map fun k=>((k:Nat):Int)).map V.int))
 have fo:=z_c (H:=H14) (a:=po) (o:=.lst ((os.map fun k=>((k:Nat):Int)).map V.int))
 have S15:=S14.trans t15
 have fm15:=t15 _ _ fm14
 have ff15:=t15 _ _ ff14
 have PP15:=PP14.same t15
 have fr15:=t15 _ _ fr14
 have hD15:=hD14.same t15
 show tSeq _ _ _ [some (.ref a),some (.ref l),some (.ref pm),some (.int (W:Int)),some (.int (I:Int)),some (.int (B:Int)),some (.ref pf),some (.ref ps),some (.ref pr),z9,z10,z11,some (.int (at_:Int)),some (.ref po),none,none,none,none,none,none,none,none,none] (upd H14 po (.lst ((os.map fun k=>((k:Nat):Int)).map V.int)))
 generalize upd H14 po (.lst ((os.map fun k=>((k:Nat):Int)).map V.int))=H15 at t15 fo S15 fm15 ff15 PP15 fr15 hD15 ⊢
 clear t15 S14 fm14 ff14 PP14 fr14 hD14 hpo
 obtain ⟨P,hP⟩:∃ P:Bx,P=⟨nm,I,B,W,fs,sr,os,od⟩:=⟨_,rfl⟩
 have ok:P.Ok:=by
  rw [hP]
  exact ⟨I3,B8,W8,nml,nmd,nms,nmk,hfB,hsB,hsr,hos8,hoo,hol,ho1,ho2⟩
 have PPx:PrsR H15 ps ts (srcI P):=by rw [hP];rw [hP0] at PP15;exact PP15
 have hDx:Dats H15 (P.ord.map P.row) xs:=by rw [hP];rw [hP0] at hD15;exact hD15
 have hnx:∀ {j:Nat},j<I+B->(nm.map V.str)[j]? = some (.str (P.n j)):=fun {j} hj=>by
  have:=hn0 hj
  rw [hP0] at this
  rw [hP]
  exact this
 have eWx:P.W=W:=by rw [hP]
 have eIx:P.I=I:=by rw [hP]
 have ffx:H15 pf=some (.lst (P.fs.map V.int)):=by rw [hP];exact ff15
 have fox:H15 po=some (.lst ((P.outs.map fun k=>((k:Nat):Int)).map V.int)):=by rw [hP];exact fo
 have eOx:P.outs=os:=by rw [hP]
 have door1:∀ {J J':Hp} {k:Nat} {t:Addr},J t=none->Same J J'->J' t=some (.tup [.str (P.n k),.int (W:Int)])->Dat J' (P.door k) (.ref t):=fun {J J' k t} _ _ e=>by
  refine Dat.tup e (.cons (Dat.str _) (.cons ?_ .nil))
  rw [eWx]
  exact Dat.int _
 clear hP0 hn0 hf0 hsl0 hs0 hsr0 eI eW PP0 nL PP15 hD15 ff15 fo
 refine ⟨_,rfl,_,rfl,by lia,by lia,comp_range (lo:=0) (fun i ys H'=>Same H15 H'/\ys.length=i/\Dats H' ((List.range i).map P.door) ys) ⟨Same.refl _,rfl,.nil⟩ ?_ ?_ ?_⟩
 ·rintro i ys H' hi ⟨_,hyl,_⟩
  exact y_j (by lia)
 ·rintro i ys H' hi ⟨s',hyl,hyd⟩
  unfold tYes
  refine iteT ⟨_,rfl,_,rfl,pm,_,_,_,rfl,rfl,SqL.of (s' _ _ fm15),at0M (hnx (by lia)),_,rfl,(by show 2<=sizeLine;decide),fun t ht=>?_⟩
  have t1:=z_d ht (.tup [.str (P.n i),.int (W:Int)])
  refine ⟨s'.trans t1,by rw [List.length_append,hyl];rfl,?_⟩
  rw [List.range_succ,List.map_append]
  exact (hyd.same t1).append (.cons (door1 ht t1 z_c) .nil)
 rintro ys H16 ⟨s16,hyl,hyd⟩ pq hpq
 rw [show ((I:Int)).toNat=P.I by rw [eIx];lia] at hyd
 have t17:=z_d hpq (.lst ys)
 refine ⟨pq,_,rfl,.inl ⟨SqL.of z_c,fun pd hpd=>?_⟩⟩
 have t18:=z_d hpd (.tup ys)
 have fd:=z_c (H:=upd H16 pq (.lst ys)) (a:=pd) (o:=.tup ys)
 have T18:=s16.trans (t17.trans t18)
 have hdd:=hyd.same (t17.trans t18)
 show tSeq _ _ _ [some (.ref a),some (.ref l),some (.ref pm),some (.int (W:Int)),some (.int (I:Int)),some (.int (B:Int)),some (.ref pf),some (.ref ps),some (.ref pr),z9,z10,z11,some (.int (at_:Int)),some (.ref po),some (.ref pd),none,none,none,none,none,none,none,none] (upd (upd H16 pq (.lst ys)) pd (.tup ys))
 generalize upd (upd H16 pq (.lst ys)) pd (.tup ys)=H18 at t18 fd T18 hdd ⊢
 clear t17 t18 s16 hyd hpd
 refine ⟨_,rfl,_,rfl,po,rfl,⟨_,SqL.of (T18 _ _ fox)⟩,comp_list (xs:=(P.outs.map fun k=>((k:Nat):Int)).map V.int) (fun i zs H'=>Same H18 H'/\zs.length=i/\Dats H' ((P.outs.take i).map P.door) zs) ⟨Same.refl _,rfl,.nil⟩ ?_ ?_ ?_ ?_⟩
 ·rintro i zs H' _ ⟨s',_⟩
  exact SqL.of (s' _ _ (T18 _ _ fox))
 ·rintro i zs H' hi ⟨_,hzl,_⟩
  rw [List.length_map,List.length_map,eOx] at hi
  exact y_j (by lia)
 ·rintro i v zs H' hv ⟨s',hzl,hzd⟩
  rw [List.getElem?_map,List.getElem?_map] at hv
  cases hk:P.outs[i]? with
  | none=>rw [hk] at hv;cases hv
  | some k =>
   rw [hk] at hv
   cases hv
   have hkk:=ok.oo k (List.mem_of_getElem? hk)
   rw [hP] at hkk
   have hkk:k<I+B:=hkk
   unfold tYes
   refine iteT ⟨_,rfl,_,rfl,pm,_,_,_,rfl,rfl,SqL.of (s' _ _ (T18 _ _ fm15)),z_u (hnx hkk),_,rfl,(by show 2<=sizeLine;decide),fun t ht=>?_⟩
   have t1:=z_d ht (.tup [.str (P.n k),.int (W:Int)])
   refine ⟨s'.trans t1,by rw [List.length_append,hzl];rfl,?_⟩
   rw [x_i hk,List.map_append]
   exact (hzd.same t1).append (.cons (door1 ht t1 z_c) .nil)
 rintro zs H19 ⟨s19,hzl,hzd⟩ pu hpu
 rw [List.length_map,List.length_map,List.take_length] at hzd
 have t20:=z_d hpu (.lst zs)
 refine ⟨pu,_,rfl,.inl ⟨SqL.of z_c,fun pv hpv=>?_⟩⟩
 have t21:=z_d hpv (.tup zs)
 have fv:=z_c (H:=upd H19 pu (.lst zs)) (a:=pv) (o:=.tup zs)
 have T21:=s19.trans (t20.trans t21)
 have hzd2:=hzd.same (t20.trans t21)
 generalize upd (upd H19 pu (.lst zs)) pv (.tup zs)=H21 at t21 fv T21 hzd2 ⊢
 have T15:=T18.trans T21
 refine ⟨_,rfl,pr,_,rfl,.inl ⟨SqL.of (T15 _ _ fr15),fun pw hpw=>?_⟩⟩
 have t22:=z_d hpw (.tup xs)
 have fw:=z_c (H:=H21) (a:=pw) (o:=.tup xs)
 generalize upd H21 pw (.tup xs)=H22 at t22 fw ⊢
 refine ⟨(by show 4<=sizeLine;decide),fun pa hpa=>?_⟩
 have t23:=z_d hpa (.tup [.str "a",.ref pd,.ref pv,.ref pw])
 have fa:=z_c (H:=H22) (a:=pa) (o:=.tup [.str "a",.ref pd,.ref pv,.ref pw])
 generalize upd H22 pa (.tup [.str "a",.ref pd,.ref pv,.ref pw])=H23 at t23 fa ⊢
 refine ⟨(by show 1<=sizeLine;decide),fun pp hpp=>?_⟩
 have t24:=z_d hpp (.lst [.ref pa])
 have fp:=z_c (H:=H23) (a:=pp) (o:=.lst [.ref pa])
 have T24:=T15.trans (t22.trans (t23.trans t24))
 have S24:=S15.trans T24
 have hPart:Dat (upd H23 pp (.lst [.ref pa])) P.part (.ref pa):=by
  have u:=t22.trans (t23.trans t24)
  have u2:=t23.trans t24
  refine Dat.tup (t24 _ _ fa) (.cons (Dat.str _) (.cons (Dat.tup ((T21.trans u) _ _ fd) (hdd.same (T21.trans u))) (.cons (Dat.tup (u _ _ fv) (hzd2.same u)) (.cons (Dat.tup (u2 _ _ fw) (hDx.same (T15.trans u))) .nil))))
 have PP24:=PPx.same T24
 have ff24:=T24 _ _ ffx
 have fo24:=T24 _ _ fox
 show tSeq _ _ _ [some (.ref a),some (.ref l),some (.ref pm),some (.int (W:Int)),some (.int (I:Int)),some (.int (B:Int)),some (.ref pf),some (.ref ps),some (.ref pr),z9,z10,z11,some (.int (at_:Int)),some (.ref po),some (.ref pd),some (.ref pp),none,none,none,none,none,none,none] (upd H23 pp (.lst [.ref pa]))
 generalize upd H23 pp (.lst [.ref pa])=H24 at t24 fp T24 S24 hPart PP24 ff24 fo24 ⊢
 clear t24 t23 t22 T15 T18 T21 fw fa fv fd hdd hzd hzd2 hpp hpa hpw hpv hpu s19 t20 t21 hpq door1 hnx hDx PPx ffx fox S15 fm15 fr15
 refine ⟨_,rfl,a,ns,1,rfl,S24.seq hS,h63,by decide,fun l2 c0 c1 hl2 hc0=>?_⟩
 have t25:=z_d hl2 (.lst [.int c0,.int c1])
 have C25:Bag (upd H24 l2 (.lst [.int c0,.int c1])) l2:=⟨c0,c1,z_c,hc0⟩
 show tSeq _ _ _ [some (.ref a),some (.ref l),some (.ref pm),some (.int (W:Int)),some (.int (I:Int)),some (.int (B:Int)),some (.ref pf),some (.ref ps),some (.ref pr),z9,z10,z11,some (.int (at_:Int)),some (.ref po),some (.ref pd),some (.ref pp),some (.ref l2),none,none,none,none,none,none] (upd H24 l2 (.lst [.int c0,.int c1]))
 generalize upd H24 l2 (.lst [.int c0,.int c1])=H25 at t25 C25 ⊢
 refine ⟨_,rfl,l2,13,rfl,C25,by decide,by decide,fun nb H26 n0 n1 g26=>?_⟩
 have t26:Same H24 H26:=Bg.same hl2 t25 g26
 refine ⟨_,rfl,by lia,by lia,comp_range (lo:=0) (fun i ys H'=>Bg l2 H26 H'/\∃ (rs:List Addr) (bs:List (List Int)),ys=rs.map V.ref/\Pw H' rs bs/\bs.length=i/\(∀ g∈bs,g.length=I)/\∀ r∈rs,r≠l2) ⟨Bg.refl g26.2,[],[],rfl,.nil,rfl,(fun _ h=>nomatch h),(fun _ h=>nomatch h)⟩ ?_ ?_ ?_⟩
 ·rintro i ys H' hi ⟨g,rs,bs,rfl,hpw,hbl,_⟩
  have:=Paired.length hpw
  rw [List.length_map]
  exact y_j (by lia)
 ·rintro i ys H' hi ⟨g,rs,bs,rfl,hpw,hbl,hbI,hne⟩
  unfold tYes
  refine iteT ⟨_,rfl,_,rfl,by lia,by lia,comp_range (lo:=0) (fun j zs H''=>Bg l2 H' H''/\∃ x:List Int,zs=x.map V.int/\x.length=j) ⟨Bg.refl g.2,[],rfl,rfl⟩ ?_ ?_ ?_⟩
  ·rintro j zs H'' hj ⟨_,x,rfl,hx⟩
   rw [List.length_map]
   exact y_j (by lia)
  ·rintro j zs H'' hj ⟨g',x,rfl,hx⟩
   refine iteT ⟨_,rfl,_,rfl,_,_,rfl,rfl,⟨by lia,by lia,by decide⟩,l2,_,rfl,g'.2,powW.1,powW.2,fun e H3 e0 e1 g''=>?_⟩
   exact ⟨g'.trans g'',x++[e],by rw [List.map_append];rfl,by rw [List.length_append,hx];rfl⟩
  ·rintro zs H'' ⟨g',x,rfl,hx⟩ pb hpb
   have gg:=g'.trans (Bg.new g'.2 hpb (.lst (x.map V.int)))
   refine ⟨g.trans gg,rs++[pb],bs++[x],by rw [List.map_append];rfl,pairedSn (pairedMem (fun r y hm z=>gg.1 _ _ (hne r hm) z) hpw) (.cons z_c .nil),by rw [List.length_append,hbl];rfl,fun y hy=>?_,fun r hm=>?_⟩
   ·rcases List.mem_append.mp hy with z | z
    ·exact hbI y z
    ·rw [List.mem_singleton.mp z,hx]
     lia
   ·rcases List.mem_append.mp hm with z | z
    ·exact hne r z
    ·rw [List.mem_singleton.mp z]
     exact g'.2.ne hpb
 rintro ys H27 ⟨g27,rs,bs,rfl,hpw,hbl,hbI,hne⟩ bt hbt
 have hb12:bs.length<=12:=by lia
 have t27:Same H24 H27:=Bg.same hl2 (Same.refl _ |>.trans t26) g27
 have nbt:=g27.2.ne hbt
 have t28:=z_d hbt (.lst (rs.map V.ref))
 have fb:=z_c (H:=H27) (a:=bt) (o:=.lst (rs.map V.ref))
 have C28:=g27.2.set nbt (.lst (rs.map V.ref))
 have T28:=t27.trans t28
 have RB:RwsR (upd H27 bt (.lst (rs.map V.ref))) bt rs bs:=⟨fb,z_r (fun _ _ z=>t28 _ _ z) hpw⟩
 show tSeq _ _ _ [some (.ref a),some (.ref l),some (.ref pm),some (.int (W:Int)),some (.int (I:Int)),some (.int (B:Int)),some (.ref pf),some (.ref ps),some (.ref pr),z9,z10,z11,some (.int (at_:Int)),some (.ref po),some (.ref pd),some (.ref pp),some (.ref l2),some (.ref bt),none,none,none,none,none] (upd H27 bt (.lst (rs.map V.ref)))
 generalize upd H27 bt (.lst (rs.map V.ref))=H28 at t28 fb C28 T28 RB ⊢
 clear t25 C25 t26 g26 g27 t27 t28 hpw hbt hbl n0 n1
 have hbP:∀ g∈bs,g.length=P.I:=fun g hg=>by rw [eIx];exact hbI g hg
 have eP:(1:Int)*2^(W:Int).toNat-1=2^P.W-1:=by rw [Int.one_mul,Int.toNat_natCast,eWx]
 refine ⟨_,rfl,_,rfl,_,rfl,_,rfl,_,rfl,_,_,rfl,rfl,⟨by lia,by lia,by decide⟩,_,_,rfl,rfl,P,ps,pf,po,bt,rs,bs,(by dsimp only;rw [eP];rfl),ok,⟨ts,PP24.same T28⟩,T28 _ _ ff24,T28 _ _ fo24,RB,hbP,hb12,fun pe te H29 hpe hte t29 RD=>?_⟩
 have rl:=P.run_len P.fs bs
 have rr:=P.run_rows P.fs bs
 have ol8:=ok.ol
 have npe:pe≠l2:=C28.ne hpe
 have nte:∀ t∈te,t≠l2:=fun t ht=>C28.ne (hte t ht)
 have T29:=T28.trans t29
 have C29:=(C28.same t29).2
 have RB29:=RB.same t29
 have hp29:=hPart.same T29
 have fp29:=T29 _ _ fp
 show tSeq _ _ _ [some (.ref a),some (.ref l),some (.ref pm),some (.int (W:Int)),some (.int (I:Int)),some (.int (B:Int)),some (.ref pf),some (.ref ps),some (.ref pr),z9,z10,z11,some (.int (at_:Int)),some (.ref po),some (.ref pd),some (.ref pp),some (.ref l2),some (.ref bt),some (.ref pe),none,none,none,none] H29
 refine ⟨_,rfl,pp,_,rfl,.inl (SqL.of fp29),fun q1 hq1=>?_⟩
 have u1:=z_d hq1 (.lst [.ref pa])
 have v1:=z_c (H:=H29) (a:=q1) (o:=.lst [.ref pa])
 generalize upd H29 q1 (.lst [.ref pa])=J1 at u1 v1 ⊢
 have RB1:=RB29.same u1
 refine ⟨_,rfl,bt,rfl,⟨_,SqL.of RB1.1⟩,comp_new (xs:=rs.map V.ref) bs (fun g=>.lst (g.map V.int)) (SqL.of RB1.1) (by rw [List.length_map,RB.length]) (by lia) (fun i v g J' hv hg s' N hN=>?_) fun r2 J2 u2 _ pw2 q2 hq2=>?_⟩
 ·rw [List.getElem?_map] at hv
  obtain ⟨r,hr,rfl⟩:=Option.map_eq_some_iff.mp hv
  obtain ⟨g',hg',er⟩:=pairedGet (RB1.same s').2 hr
  rw [hg] at hg'
  cases hg'
  exact ⟨_,rfl,r,_,rfl,.inl (SqL.of er),fun u hu=>hN u _ hu (z_d hu _) z_c⟩
 have u3:=z_d hq2 (.lst (r2.map V.ref))
 have RH:RwsR (upd J2 q2 (.lst (r2.map V.ref))) q2 r2 bs:=⟨z_c,z_r (fun _ _ z=>u3 _ _ z) pw2⟩
 have U3:=u1.trans (u2.trans u3)
 have v13:=u3 _ _ (u2 _ _ v1)
 generalize upd J2 q2 (.lst (r2.map V.ref))=J3 at u3 RH U3 v13 ⊢
 refine ⟨(by show 2<=sizeLine;decide),fun q3 hq3=>?_⟩
 have u4:=z_d hq3 (.lst [.ref q1,.ref q2])
 have v4:=z_c (H:=J3) (a:=q3) (o:=.lst [.ref q1,.ref q2])
 have RH4:=RH.same u4
 have v14:=u4 _ _ v13
 have U4:=U3.trans u4
 show tSeq _ _ _ [some (.ref a),some (.ref l),some (.ref pm),some (.int (W:Int)),some (.int (I:Int)),some (.int (B:Int)),some (.ref pf),some (.ref ps),some (.ref pr),z9,z10,z11,some (.int (at_:Int)),some (.ref po),some (.ref pd),some (.ref pp),some (.ref l2),some (.ref bt),some (.ref pe),some (.ref q3),none,none,none] (upd J3 q3 (.lst [.ref q1,.ref q2]))
 generalize upd J3 q3 (.lst [.ref q1,.ref q2])=J4 at u4 v4 RH4 v14 U4 ⊢
 have nq1:q1≠l2:=C29.ne hq1
 have nq3:q3≠l2:=(C29.same U3).2.ne hq3
 have C4:=(C29.same U4).2
 have RB4:=RB29.same U4
 have RD4:=RD.same U4
 have hp4:=hp29.same U4
 have fp4:=U4 _ _ fp29
 refine ⟨_,rfl,q3,_,_,_,rfl,rfl,SqL.of v4,rfl,_,rfl,q3,_,_,_,rfl,rfl,SqL.of v4,rfl,P,q1,pa,q2,r2,bs,rfl,ok,v14,hp4,RH4,hbP,hb12,fun pf2 t2 J5 hpf2 ht2 u5 RF=>?_⟩
 show tSeq _ _ _ [some (.ref a),some (.ref l),some (.ref pm),some (.int (W:Int)),some (.int (I:Int)),some (.int (B:Int)),some (.ref pf),some (.ref ps),some (.ref pr),z9,z10,z11,some (.int (at_:Int)),some (.ref po),some (.ref pd),some (.ref pp),some (.ref l2),some (.ref bt),some (.ref pe),some (.ref q3),some (.ref pf2),none,none] J5
 have r100:∀ r∈(P.run P.fs bs).2,r.length<=100:=fun r hr=>by rw [rr r hr];lia
 refine ⟨_,rfl,_,rfl,.ref pf2,.ref pe,rfl,⟨2,rfl,rws_sam RF (RD4.same u5) (by lia) r100⟩,fun J6 u6=>⟨_,rfl,?_⟩⟩
 refine iteF ?_
 have U6:=u5.trans u6
 refine ⟨_,rfl,_,rfl,_,rfl,(by show 2<=sizeLine;decide),fun q4 hq4=>?_⟩
 have u7:=z_d hq4 (.lst [.ref pp,.ref bt])
 have v7:=z_c (H:=J6) (a:=q4) (o:=.lst [.ref pp,.ref bt])
 generalize upd J6 q4 (.lst [.ref pp,.ref bt])=J7 at u7 v7 ⊢
 have U7:=U6.trans u7
 refine rEqD.eq (.list [.list [P.part],dRows bs]) (RdD.lst (SqL.of (U7 _ _ v4)) (.cons (RdD.lst (SqL.of (U7 _ _ v14)) (.cons (hp4.same U7).rd .nil)) (.cons (RH4.same U7).rd .nil))) (RdD.lst (SqL.of v7) (.cons (RdD.lst (SqL.of (U7 _ _ fp4)) (.cons (hp4.same U7).rd .nil)) (.cons (RB4.same U7).rd .nil))) (Bx.hand_cmp ok bs) ⟨_,rfl,?_⟩
 refine iteF ?_
 have RF7:=RF.same (u6.trans u7)
 have lt2:=RF.length
 have al7:=pw_all RF7.2 (n:=8) fun r hr=>by rw [rr r hr];lia
 refine ⟨_,rfl,pf2,rfl,⟨_,SqL.of RF7.1⟩,for_list (xs:=t2.map V.ref) (fun i σ J=>∃ x21:Option V,σ=[some (.ref a),some (.ref l),some (.ref pm),some (.int (W:Int)),some (.int (I:Int)),some (.int (B:Int)),some (.ref pf),some (.ref ps),some (.ref pr),z9,z10,z11,some (.int (at_:Int)),some (.ref po),some (.ref pd),some (.ref pp),some (.ref l2),some (.ref bt),some (.ref pe),some (.ref q3),some (.ref pf2),x21,none]/\Same J4 J/\J pf2=some (.lst (t2.map V.ref))/\AllL J t2 (8+i)) ⟨_,rfl,U7,RF7.1,al7⟩ ?_ ?_ ?_⟩
 ·rintro i σ J _ ⟨_,rfl,_,h,_⟩
  exact SqL.of h
 ·rintro i v σ J hv ⟨x21,rfl,sj,fj,aj⟩
  have hi:i<t2.length:=by have:=(List.getElem?_eq_some_iff.mp hv).1;rw [List.length_map] at this;exact this
  rw [List.getElem?_map] at hv
  obtain ⟨t,ht,rfl⟩:=Option.map_eq_some_iff.mp hv
  have htm:=List.mem_of_getElem? ht
  obtain ⟨xs',ex,lx⟩:=aj t htm
  refine ⟨_,rfl,.inl ⟨rfl,_,SqL.of ex⟩,t,_,_,rfl,rfl,ex,y_j (by lia),?_⟩
  refine ⟨_,rfl,sameUpd sj (ht2 t htm).1 _,by rw [z_s (ht2 t htm).2.symm];exact fj,fun b hb=>?_⟩
  by_cases e:b=t
  ·subst e
   exact ⟨_,z_c,by rw [List.length_append,List.length_singleton];lia⟩
  ·obtain ⟨ys',ey,ly⟩:=aj b hb
   exact ⟨ys',by rw [z_s e];exact ey,by lia⟩
 rintro σ J8 ⟨x21,rfl,u8,f8,a8⟩
 refine ⟨_,rfl,.inl ⟨rfl,_,SqL.of f8⟩,(by show 0<=sizeLine;decide),fun q5 hq5=>?_⟩
 have u9:=z_d hq5 (.lst [])
 refine ⟨pf2,_,_,rfl,rfl,u9 _ _ f8,y_j (by rw [List.length_map];lia),?_⟩
 have U9:Same J4 (upd (upd J8 q5 (.lst [])) pf2 (.lst (t2.map V.ref++[.ref q5]))):=sameUpd (u8.trans u9) hpf2 _
 show tSeq _ _ _ [some (.ref a),some (.ref l),some (.ref pm),some (.int (W:Int)),some (.int (I:Int)),some (.int (B:Int)),some (.ref pf),some (.ref ps),some (.ref pr),z9,z10,z11,some (.int (at_:Int)),some (.ref po),some (.ref pd),some (.ref pp),some (.ref l2),some (.ref bt),some (.ref pe),some (.ref q3),some (.ref pf2),x21,none] (upd (upd J8 q5 (.lst [])) pf2 (.lst (t2.map V.ref++[.ref q5])))
 generalize upd (upd J8 q5 (.lst [])) pf2 (.lst (t2.map V.ref++[.ref q5]))=J9 at U9 ⊢
 have RB9:=RB4.same U9
 have lrs:=RB.length
 refine ⟨_,rfl,_,rfl,_,_,rfl,.inl ⟨_,SqL.of RB9.1,rfl⟩,_,_,rfl,rfl,l2,_,rfl,(C4.same U9).2,by lia,(by rw [List.length_map,lrs];exact Int.lt_trans (show (bs.length:Int)+1<100 by lia) (by decide)),fun fr J10 r0 r1 g10=>?_⟩
 obtain ⟨fr,rfl⟩:=Int.eq_ofNat_of_zero_le r0
 rw [List.length_map,lrs] at r1
 have keep:∀ {b:Addr} {o:HO},b≠l2->J4 b=some o->J10 b=some o:=fun {b o} n e=>g10.1 _ _ n (U9 _ _ e)
 have npp:pp≠l2:=z_n fp hl2
 have RB10:RwsR J10 bt rs bs:=⟨keep nbt RB4.1,pairedMem (fun r y hm z=>keep (hne r hm) z) RB4.2⟩
 have RD10:RwsR J10 pe te (P.run P.fs bs).2:=⟨keep npe RD4.1,pairedMem (fun r y hm z=>keep (nte r hm) z) RD4.2⟩
 have noPart:noL P.part=true:=by
  have hd:∀ k,noL (P.door k)=true:=fun k=>rfl
  have hw:∀ k,noL (P.row k)=true:=fun k=>by
   show noLs [_,_,_,_,P.say k]=true
   simp [noLs,noL,Bx.noL_say]
  show noLs [PyData.str "a",.tuple P.doors,.tuple (P.outs.map P.door),.tuple (P.ord.map P.row)]=true
  simp only [noLs,noL,Bool.true_and,Bool.and_true,Bool.and_eq_true]
  refine ⟨noLs_all fun d h=>?_,noLs_all fun d h=>?_,noLs_all fun d h=>?_⟩
  ·obtain ⟨k,_,rfl⟩:=List.mem_map.mp h;exact hd k
  ·obtain ⟨k,_,rfl⟩:=List.mem_map.mp h;exact hd k
  ·obtain ⟨k,_,rfl⟩:=List.mem_map.mp h;exact hw k
 have hp10:Dat J10 P.part (.ref pa):=Dat.keepT (g10.keepT (C4.same U9).2) noPart (hp4.same U9)
 have v10:=keep nq3 v4
 have v11:=keep nq1 v14
 have fp10:=keep npp fp4
 refine ⟨_,rfl,q3,_,_,_,rfl,rfl,SqL.of v10,rfl,_,rfl,_,rfl,_,rfl,bt,_,rfl,SqL.of RB10.1,fun b2 hb2=>?_⟩
 rw [cut_to (by rw [List.length_map,lrs];lia),<-List.map_take]
 have w1:=z_d hb2 (.lst ((rs.take fr).map V.ref))
 have RT:RwsR (upd J10 b2 (.lst ((rs.take fr).map V.ref))) b2 (rs.take fr) (bs.take fr):=⟨z_c,z_r (fun _ _ z=>w1 _ _ z) (pw_take RB10.2 fr)⟩
 generalize upd J10 b2 (.lst ((rs.take fr).map V.ref))=J11 at w1 RT ⊢
 refine ⟨P,q1,pa,b2,rs.take fr,bs.take fr,rfl,ok,w1 _ _ v11,hp10.same w1,RT,fun g hg=>hbP g (List.mem_of_mem_take hg),by rw [List.length_take];lia,fun p6 t6 J12 _ _ w2 RF2=>?_⟩
 rw [P.run_take] at RF2
 have RD12:=RD10.same (w1.trans w2)
 have lte:=RD.length
 refine ⟨_,rfl,_,rfl,_,rfl,pe,_,rfl,SqL.of RD12.1,fun d2 hd2=>?_⟩
 rw [cut_to (by rw [List.length_map,lte,rl];lia),<-List.map_take]
 have w3:=z_d hd2 (.lst ((te.take fr).map V.ref))
 have RT2:RwsR (upd J12 d2 (.lst ((te.take fr).map V.ref))) d2 (te.take fr) ((P.run P.fs bs).2.take fr):=⟨z_c,z_r (fun _ _ z=>w3 _ _ z) (pw_take RD12.2 fr)⟩
 have RF3:=RF2.same w3
 generalize upd J12 d2 (.lst ((te.take fr).map V.ref))=J13 at w3 RT2 RF3 ⊢
 have W13:=w1.trans (w2.trans w3)
 refine ⟨.ref p6,.ref d2,rfl,⟨2,rfl,rws_sam RF3 RT2 (by rw [List.length_take];lia) fun r hr=>r100 r (List.mem_of_mem_take hr)⟩,fun J14 w4=>⟨_,rfl,?_⟩⟩
 refine iteT ?_
 have W14:=W13.trans w4
 refine ⟨_,rfl,_,rfl,P,pp,pa,bt,rs,bs,rfl,ok,W14 _ _ fp10,hp10.same W14,RB10.same W14,hbP,hb12,fun p7 t7 J15 _ _ w5 RF4=>?_⟩
 exact ⟨_,rfl,.ref p7,.ref pe,rfl,⟨2,rfl,rws_sam RF4 (RD10.same (W14.trans w5)) (by lia) r100⟩,fun J16 _=>q _⟩
end
theorem meas_all{P:Program}{w:World}{K:PySem.W.Frag}{mg:Str->Option Value}{base:Heap}{A:Ad}(T:Tx w K mg A)(G_two_to:FnOk P w K mg base CX0 1 A.a_two_to A.d_two_to ["many"] sp_two_to)(G_sayings_in:FnOk P w K mg base CX0 1 A.a_sayings_in A.d_sayings_in ["saying"] x_h)(G_width_over:FnOk P w K mg base CX0 2 A.a_width_over A.d_width_over ["saying", "inner"] sp_width_over)(G_worth_of_one:FnOk P w K mg base CX0 2 A.a_worth_of_one A.d_worth_of_one ["saying", "width", "a"] sp_of_one)(G_worth_of_two:FnOk P w K mg base CX0 2 A.a_worth_of_two A.d_worth_of_two ["word", "width", "a", "b"] sp_of_two):∀ n,FnOk P w K mg base CX0 (n+2) A.a_measured A.d_measured ["saying", "widths", "numbers"] (sp_meas n)
 | 0=>fn_none fun vs H Q E h=>by
  obtain ⟨d,v,wd,nd,wk,nk,w,x,_,_,_,_,hM,_⟩:=h
  exact hM
 | n+1=>(ok_measured T G_two_to G_sayings_in G_width_over G_worth_of_one G_worth_of_two n (meas_all T G_two_to G_sayings_in G_width_over G_worth_of_one G_worth_of_two n))
theorem ren_all{P:Program}{w:World}{K:PySem.W.Frag}{mg:Str->Option Value}{base:Heap}{A:Ad}(T:Tx w K mg A)(G_sayings_in:FnOk P w K mg base CX0 1 A.a_sayings_in A.d_sayings_in ["saying"] x_h):∀ n:Nat,FnOk P w K mg base CX0 (n+2) A.a_renamed A.d_renamed ["saying", "ahead"] (sp_ren n)
 | 0=>fn_none fun vs H Q E h=>by
  obtain ⟨_,_,_,_,_,_,hR,_⟩:=h
  exact hR
 | n+1=>ok_renamed T G_sayings_in n (ren_all T G_sayings_in n)
theorem same_all{P:Program}{w:World}{K:PySem.W.Frag}{mg:Str->Option Value}{base:Heap}{A:Ad}(T:Tx w K mg A):∀ n:Nat,FnOk P w K mg base CX0 (n+2) A.a_L_same A.d_L_same ["_law_found", "_law_due"] (sp_same n)
 | 0=>fn_none fun vs H Q E h=>by
  obtain ⟨_,_,_,⟨m,hm,_⟩,_⟩:=h
  lia
 | n+1=>ok_L_same T n (same_all T n)
theorem all_ok{P:Program}{w:World}{K:PySem.W.Frag}{mg:Str->Option Value}{base:Heap}{A:Ad}(T:Tx w K mg A):FnOk P w K mg base CX0 13 A.a_law A.d_law ["_law_script"] (sp_law K):=by
 have G_two_to:=ok_two_to (P:=P) (base:=base) T
 have G_sayings_in:=ok_sayings_in (P:=P) (base:=base) T
 have G_wires_in:=no_fn (P:=P) (w:=w) (K:=K) (mg:=mg) (base:=base) (k:=1) (f:=A.a_wires_in) (fd:=A.d_wires_in) (ps:=["saying"])
 have G_width_over:=ok_width_over (P:=P) (base:=base) T G_two_to
 have G_brings_rows:=ok_brings_rows (P:=P) (base:=base) T
 have G_rows_of_use:=no_fn (P:=P) (w:=w) (K:=K) (mg:=mg) (base:=base) (k:=1) (f:=A.a_rows_of_use) (fd:=A.d_rows_of_use) (ps:=["row", "ahead", "parts"])
 have G_renamed:=(ren_all (P:=P) (base:=base) T G_sayings_in 6).mono (show 8<=9 by decide)
 have G_rows_of:=ok_rows_of (P:=P) (base:=base) T G_rows_of_use G_renamed
 have G_spread:=ok_spread (P:=P) (base:=base) T G_brings_rows G_rows_of
 have G_fronts_of:=no_fn (P:=P) (w:=w) (K:=K) (mg:=mg) (base:=base) (k:=1) (f:=A.a_fronts_of) (fd:=A.d_fronts_of) (ps:=["row", "ahead"])
 have G_waits_of:=ok_waits_of (P:=P) (base:=base) T G_wires_in
 have G_ring_in:=no_fn (P:=P) (w:=w) (K:=K) (mg:=mg) (base:=base) (k:=1) (f:=A.a_ring_in) (fd:=A.d_ring_in) (ps:=["waits", "missing"])
 have G_order_of:=ok_order_of (P:=P) (base:=base) T G_waits_of G_ring_in
 have G_worth_of_two:=ok_worth_of_two (P:=P) (base:=base) T G_two_to
 have G_worth_of_one:=ok_worth_of_one (P:=P) (base:=base) T G_two_to
 have G_measured:=(meas_all (P:=P) (base:=base) T G_two_to G_sayings_in G_width_over G_worth_of_one G_worth_of_two 6).mono (show 8<=9 by decide)
 have G_worth:=ok_worth (P:=P) (base:=base) T G_measured
 have G_run_plan:=ok_run_plan (P:=P) (base:=base) T G_spread G_order_of G_worth
 have G_L_bag:=ok_L_bag (P:=P) (base:=base) T
 have G_L_take:=ok_L_take (P:=P) (base:=base) T
 have G_L_pool:=ok_L_pool (P:=P) (base:=base) T G_L_take
 have G_L_same:=(same_all (P:=P) (base:=base) T 3).mono (show 5<=6 by decide)
 have G_L_run:=ok_L_run (P:=P) (base:=base) T
 exact ok_law T G_L_bag G_L_pool G_L_take G_L_run G_run_plan G_L_same
theorem of_len1{fd:FuncData}{ns:List Str}(h:∀ a0,bindArgs fd ⟨[a0],[]⟩=pure (ns.zip [a0])):∀ us:List Value,us.length=1->bindArgs fd ⟨us,[]⟩=pure (ns.zip us):=fun us hl=>by
 match us,hl with
 | [a0],_=>exact h a0
theorem of_len2{fd:FuncData}{ns:List Str}(h:∀ a0 a1,bindArgs fd ⟨[a0,a1],[]⟩=pure (ns.zip [a0,a1])):∀ us:List Value,us.length=2->bindArgs fd ⟨us,[]⟩=pure (ns.zip us):=fun us hl=>by
 match us,hl with
 | [a0,a1],_=>exact h a0 a1
theorem of_len3{fd:FuncData}{ns:List Str}(h:∀ a0 a1 a2,bindArgs fd ⟨[a0,a1,a2],[]⟩=pure (ns.zip [a0,a1,a2])):∀ us:List Value,us.length=3->bindArgs fd ⟨us,[]⟩=pure (ns.zip us):=fun us hl=>by
 match us,hl with
 | [a0,a1,a2],_=>exact h a0 a1 a2
theorem of_len4{fd:FuncData}{ns:List Str}(h:∀ a0 a1 a2 a3,bindArgs fd ⟨[a0,a1,a2,a3],[]⟩=pure (ns.zip [a0,a1,a2,a3])):∀ us:List Value,us.length=4->bindArgs fd ⟨us,[]⟩=pure (ns.zip us):=fun us hl=>by
 match us,hl with
 | [a0,a1,a2,a3],_=>exact h a0 a1 a2 a3
theorem of_len5{fd:FuncData}{ns:List Str}(h:∀ a0 a1 a2 a3 a4,bindArgs fd ⟨[a0,a1,a2,a3,a4],[]⟩=pure (ns.zip [a0,a1,a2,a3,a4])):∀ us:List Value,us.length=5->bindArgs fd ⟨us,[]⟩=pure (ns.zip us):=fun us hl=>by
 match us,hl with
 | [a0,a1,a2,a3,a4],_=>exact h a0 a1 a2 a3 a4
theorem all_mk{w:World}{K:PySem.W.Frag}{h:Heap}{mg:Str->Option Value}{fa:Addr}(X:K.In h)(G:h.Ns mainGlobals mg)(hfa:mg "law" = some (.ref fa))
  {f0 f1 f2 f3 f4 f5 f6 f7 f8 f9 f10 f11 f12 f13 f14 f15 f16 f17 f18 f19 f20 f21 f22 f23:Addr} {od0 an0 od1 an1 od2 an2 od3 an3 od4 an4 od5 an5 od6 an6 od7 an7 od8 an8 od9 an9 od10 an10 od11 an11 od12 an12 od13 an13 od14 an14 od15 an15 od16 an16 od17 an17 od18 an18 od19 an19 od20 an20 od21 an21 od22 an22 od23 an23:Option Addr} {sl0 sl1 sl2 sl3 sl4 sl5 sl6 sl7 sl8 sl9 sl10 sl11 sl12 sl13 sl14 sl15 sl16 sl17 sl18 sl19 sl20 sl21 sl22 sl23:Array (Option Value)} {oc0 kV0 dc0 pm0 cd0 ct0 oc1 kV1 dc1 pm1 cd1 ct1 oc2 kV2 dc2 pm2 cd2 ct2 oc3 kV3 dc3 pm3 cd3 ct3 oc4 kV4 dc4 pm4 cd4 ct4 oc5 kV5 dc5 pm5 cd5 ct5 oc6 kV6 dc6 pm6 cd6 ct6 oc7 kV7 dc7 pm7 cd7 ct7 oc8 kV8 dc8 pm8 cd8 ct8 oc9 kV9 dc9 pm9 cd9 ct9 oc10 kV10 dc10 pm10 cd10 ct10 oc11 kV11 dc11 pm11 cd11 ct11 oc12 kV12 dc12 pm12 cd12 ct12 oc13 kV13 dc13 pm13 cd13 ct13 oc14 kV14 dc14 pm14 cd14 ct14 oc15 kV15 dc15 pm15 cd15 ct15 oc16 kV16 dc16 pm16 cd16 ct16 oc17 kV17 dc17 pm17 cd17 ct17 oc18 kV18 dc18 pm18 cd18 ct18 oc19 kV19 dc19 pm19 cd19 ct19 oc20 kV20 dc20 pm20 cd20 ct20 oc21 kV21 dc21 pm21 cd21 ct21 oc22 kV22 dc22 pm22 cd22 ct22 oc23 kV23 dc23 pm23 cd23 ct23:Value}
  {C_ForgeError:Addr} (aC_ForgeError:PySem.W.nsIn K mainGlobals "ForgeError" = some (some (.ref C_ForgeError)))
  {C_Ring:Addr} (aC_Ring:PySem.W.nsIn K mainGlobals "Ring" = some (some (.ref C_Ring)))
  (a0:PySem.W.nsIn K mainGlobals "two_to" = some (some (.ref f0))) (l0:K.lookup f0=some ⟨oc0,od0,.func (PySem.W.fnOf "two_to" "two_to" (z_k s_two_to) (z_j s_two_to) (z_g s_two_to) .none kV0 dc0 pm0 an0 cd0 ct0),sl0⟩) (c0:PySem.W.codeIn K cd0 "two_to" = true) (k0:PySem.W.keepIn K (.ref f0)=true)
  (a1:PySem.W.nsIn K mainGlobals "sayings_in" = some (some (.ref f1))) (l1:K.lookup f1=some ⟨oc1,od1,.func (PySem.W.fnOf "sayings_in" "sayings_in" (z_k y_e) (z_j y_e) (z_g y_e) .none kV1 dc1 pm1 an1 cd1 ct1),sl1⟩) (c1:PySem.W.codeIn K cd1 "sayings_in" = true) (k1:PySem.W.keepIn K (.ref f1)=true)
  (a2:PySem.W.nsIn K mainGlobals "wires_in" = some (some (.ref f2))) (l2:K.lookup f2=some ⟨oc2,od2,.func (PySem.W.fnOf "wires_in" "wires_in" (z_k y_z) (z_j y_z) (z_g y_z) .none kV2 dc2 pm2 an2 cd2 ct2),sl2⟩) (c2:PySem.W.codeIn K cd2 "wires_in" = true) (k2:PySem.W.keepIn K (.ref f2)=true)
  (a3:PySem.W.nsIn K mainGlobals "width_over" = some (some (.ref f3))) (l3:K.lookup f3=some ⟨oc3,od3,.func (PySem.W.fnOf "width_over" "width_over" (z_k y_f) (z_j y_f) (z_g y_f) .none kV3 dc3 pm3 an3 cd3 ct3),sl3⟩) (c3:PySem.W.codeIn K cd3 "width_over" = true) (k3:PySem.W.keepIn K (.ref f3)=true)
  (a4:PySem.W.nsIn K mainGlobals "spread" = some (some (.ref f4))) (l4:K.lookup f4=some ⟨oc4,od4,.func (PySem.W.fnOf "spread" "spread" (z_k s_spread) (z_j s_spread) (z_g s_spread) .none kV4 dc4 pm4 an4 cd4 ct4),sl4⟩) (c4:PySem.W.codeIn K cd4 "spread" = true) (k4:PySem.W.keepIn K (.ref f4)=true)
  (a5:PySem.W.nsIn K mainGlobals "brings_rows" = some (some (.ref f5))) (l5:K.lookup f5=some ⟨oc5,od5,.func (PySem.W.fnOf "brings_rows" "brings_rows" (z_k y_c) (z_j y_c) (z_g y_c) .none kV5 dc5 pm5 an5 cd5 ct5),sl5⟩) (c5:PySem.W.codeIn K cd5 "brings_rows" = true) (k5:PySem.W.keepIn K (.ref f5)=true)
  (a6:PySem.W.nsIn K mainGlobals "rows_of" = some (some (.ref f6))) (l6:K.lookup f6=some ⟨oc6,od6,.func (PySem.W.fnOf "rows_of" "rows_of" (z_k x_b) (z_j x_b) (z_g x_b) .none kV6 dc6 pm6 an6 cd6 ct6),sl6⟩) (c6:PySem.W.codeIn K cd6 "rows_of" = true) (k6:PySem.W.keepIn K (.ref f6)=true)
  (a7:PySem.W.nsIn K mainGlobals "rows_of_use" = some (some (.ref f7))) (l7:K.lookup f7=some ⟨oc7,od7,.func (PySem.W.fnOf "rows_of_use" "rows_of_use" (z_k y_d) (z_j y_d) (z_g y_d) .none kV7 dc7 pm7 an7 cd7 ct7),sl7⟩) (c7:PySem.W.codeIn K cd7 "rows_of_use" = true) (k7:PySem.W.keepIn K (.ref f7)=true)
  (a8:PySem.W.nsIn K mainGlobals "fronts_of" = some (some (.ref f8))) (l8:K.lookup f8=some ⟨oc8,od8,.func (PySem.W.fnOf "fronts_of" "fronts_of" (z_k y_m) (z_j y_m) (z_g y_m) .none kV8 dc8 pm8 an8 cd8 ct8),sl8⟩) (c8:PySem.W.codeIn K cd8 "fronts_of" = true) (k8:PySem.W.keepIn K (.ref f8)=true)
  (a9:PySem.W.nsIn K mainGlobals "renamed" = some (some (.ref f9))) (l9:K.lookup f9=some ⟨oc9,od9,.func (PySem.W.fnOf "renamed" "renamed" (z_k x_a) (z_j x_a) (z_g x_a) .none kV9 dc9 pm9 an9 cd9 ct9),sl9⟩) (c9:PySem.W.codeIn K cd9 "renamed" = true) (k9:PySem.W.keepIn K (.ref f9)=true)
  (a10:PySem.W.nsIn K mainGlobals "order_of" = some (some (.ref f10))) (l10:K.lookup f10=some ⟨oc10,od10,.func (PySem.W.fnOf "order_of" "order_of" (z_k y_o) (z_j y_o) (z_g y_o) .none kV10 dc10 pm10 an10 cd10 ct10),sl10⟩) (c10:PySem.W.codeIn K cd10 "order_of" = true) (k10:PySem.W.keepIn K (.ref f10)=true)
  (a11:PySem.W.nsIn K mainGlobals "waits_of" = some (some (.ref f11))) (l11:K.lookup f11=some ⟨oc11,od11,.func (PySem.W.fnOf "waits_of" "waits_of" (z_k y_q) (z_j y_q) (z_g y_q) .none kV11 dc11 pm11 an11 cd11 ct11),sl11⟩) (c11:PySem.W.codeIn K cd11 "waits_of" = true) (k11:PySem.W.keepIn K (.ref f11)=true)
  (a12:PySem.W.nsIn K mainGlobals "ring_in" = some (some (.ref f12))) (l12:K.lookup f12=some ⟨oc12,od12,.func (PySem.W.fnOf "ring_in" "ring_in" (z_k x_g) (z_j x_g) (z_g x_g) .none kV12 dc12 pm12 an12 cd12 ct12),sl12⟩) (c12:PySem.W.codeIn K cd12 "ring_in" = true) (k12:PySem.W.keepIn K (.ref f12)=true)
  (a13:PySem.W.nsIn K mainGlobals "worth" = some (some (.ref f13))) (l13:K.lookup f13=some ⟨oc13,od13,.func (PySem.W.fnOf "worth" "worth" (z_k s_worth) (z_j s_worth) (z_g s_worth) .none kV13 dc13 pm13 an13 cd13 ct13),sl13⟩) (c13:PySem.W.codeIn K cd13 "worth" = true) (k13:PySem.W.keepIn K (.ref f13)=true)
  (a14:PySem.W.nsIn K mainGlobals "measured" = some (some (.ref f14))) (l14:K.lookup f14=some ⟨oc14,od14,.func (PySem.W.fnOf "measured" "measured" (z_k y_n) (z_j y_n) (z_g y_n) .none kV14 dc14 pm14 an14 cd14 ct14),sl14⟩) (c14:PySem.W.codeIn K cd14 "measured" = true) (k14:PySem.W.keepIn K (.ref f14)=true)
  (a15:PySem.W.nsIn K mainGlobals "worth_of_one" = some (some (.ref f15))) (l15:K.lookup f15=some ⟨oc15,od15,.func (PySem.W.fnOf "worth_of_one" "worth_of_one" (z_k y_a) (z_j y_a) (z_g y_a) .none kV15 dc15 pm15 an15 cd15 ct15),sl15⟩) (c15:PySem.W.codeIn K cd15 "worth_of_one" = true) (k15:PySem.W.keepIn K (.ref f15)=true)
  (a16:PySem.W.nsIn K mainGlobals "worth_of_two" = some (some (.ref f16))) (l16:K.lookup f16=some ⟨oc16,od16,.func (PySem.W.fnOf "worth_of_two" "worth_of_two" (z_k y_b) (z_j y_b) (z_g y_b) .none kV16 dc16 pm16 an16 cd16 ct16),sl16⟩) (c16:PySem.W.codeIn K cd16 "worth_of_two" = true) (k16:PySem.W.keepIn K (.ref f16)=true)
  (a17:PySem.W.nsIn K mainGlobals "run_plan" = some (some (.ref f17))) (l17:K.lookup f17=some ⟨oc17,od17,.func (PySem.W.fnOf "run_plan" "run_plan" (z_k y_p) (z_j y_p) (z_g y_p) .none kV17 dc17 pm17 an17 cd17 ct17),sl17⟩) (c17:PySem.W.codeIn K cd17 "run_plan" = true) (k17:PySem.W.keepIn K (.ref f17)=true)
  (a18:PySem.W.nsIn K mainGlobals "_law_bag" = some (some (.ref f18))) (l18:K.lookup f18=some ⟨oc18,od18,.func (PySem.W.fnOf "_law_bag" "_law_bag" (z_k s_L_bag) (z_j s_L_bag) (z_g s_L_bag) .none kV18 dc18 pm18 an18 cd18 ct18),sl18⟩) (c18:PySem.W.codeIn K cd18 "_law_bag" = true) (k18:PySem.W.keepIn K (.ref f18)=true)
  (a19:PySem.W.nsIn K mainGlobals "_law_take" = some (some (.ref f19))) (l19:K.lookup f19=some ⟨oc19,od19,.func (PySem.W.fnOf "_law_take" "_law_take" (z_k s_L_take) (z_j s_L_take) (z_g s_L_take) .none kV19 dc19 pm19 an19 cd19 ct19),sl19⟩) (c19:PySem.W.codeIn K cd19 "_law_take" = true) (k19:PySem.W.keepIn K (.ref f19)=true)
  (a20:PySem.W.nsIn K mainGlobals "_law_pool" = some (some (.ref f20))) (l20:K.lookup f20=some ⟨oc20,od20,.func (PySem.W.fnOf "_law_pool" "_law_pool" (z_k s_L_pool) (z_j s_L_pool) (z_g s_L_pool) .none kV20 dc20 pm20 an20 cd20 ct20),sl20⟩) (c20:PySem.W.codeIn K cd20 "_law_pool" = true) (k20:PySem.W.keepIn K (.ref f20)=true)
  (a21:PySem.W.nsIn K mainGlobals "_law_same" = some (some (.ref f21))) (l21:K.lookup f21=some ⟨oc21,od21,.func (PySem.W.fnOf "_law_same" "_law_same" (z_k s_L_same) (z_j s_L_same) (z_g s_L_same) .none kV21 dc21 pm21 an21 cd21 ct21),sl21⟩) (c21:PySem.W.codeIn K cd21 "_law_same" = true) (k21:PySem.W.keepIn K (.ref f21)=true)
  (a22:PySem.W.nsIn K mainGlobals "_law_run" = some (some (.ref f22))) (l22:K.lookup f22=some ⟨oc22,od22,.func (PySem.W.fnOf "_law_run" "_law_run" (z_k s_L_run) (z_j s_L_run) (z_g s_L_run) .none kV22 dc22 pm22 an22 cd22 ct22),sl22⟩) (c22:PySem.W.codeIn K cd22 "_law_run" = true) (k22:PySem.W.keepIn K (.ref f22)=true)
  (a23:PySem.W.nsIn K mainGlobals "law" = some (some (.ref f23))) (l23:K.lookup f23=some ⟨oc23,od23,.func (PySem.W.fnOf "law" "law" (z_k s_law) (z_j s_law) (z_g s_law) .none kV23 dc23 pm23 an23 cd23 ct23),sl23⟩) (c23:PySem.W.codeIn K cd23 "law" = true) (k23:PySem.W.keepIn K (.ref f23)=true)
  (z0:PySem.W.nsIn K mainGlobals "abs" = some none)
  (z1:PySem.W.nsIn K mainGlobals "all" = some none)
  (z2:PySem.W.nsIn K mainGlobals "bool" = some none)
  (z3:PySem.W.nsIn K mainGlobals "dict" = some none)
  (z4:PySem.W.nsIn K mainGlobals "int" = some none)
  (z5:PySem.W.nsIn K mainGlobals "isinstance" = some none)
  (z6:PySem.W.nsIn K mainGlobals "len" = some none)
  (z7:PySem.W.nsIn K mainGlobals "list" = some none)
  (z8:PySem.W.nsIn K mainGlobals "max" = some none)
  (z9:PySem.W.nsIn K mainGlobals "min" = some none)
  (z10:PySem.W.nsIn K mainGlobals "range" = some none)
  (z11:PySem.W.nsIn K mainGlobals "str" = some none)
  (z12:PySem.W.nsIn K mainGlobals "tuple" = some none)
  (z13:PySem.W.nsIn K mainGlobals "zip" = some none)
  {t_MOST_WIDTH:Tok} (g_MOST_WIDTH:PySem.W.nsIn K mainGlobals "MOST_WIDTH" = some (some (.int 8 t_MOST_WIDTH)))
  {d_FORMS:Addr} (g_FORMS:PySem.W.nsIn K mainGlobals "FORMS" = some (some (.ref d_FORMS)))
  {es:Array DictEntry} {n_F:Nat} (l_FORMS:K.lookup d_FORMS=some ⟨.type "dict",none,.dict es n_F,#[]⟩) (kF:PySem.W.KeysLit w.params es.toList) (lo_F:(d_FORMS == sysModules)=false) {h0 h1 h2 h3 h4 h5 h6 h7 h8 h9 h10 h11 h12 h13 h14 h15:Int} {t0 t1 t2 t3 t4 t5 t6 t7 t8 t9 t10 t11 t12 t13 t14 t15:Tok} {p0 p1 p2 p3 p4 p5 p6 p7 p8 p9 p10 p11 p12 p13 p14 p15:Addr} (eF:es.toList=[⟨h0,.str "wire" t0,.ref p0⟩,⟨h1,.str "number" t1,.ref p1⟩,⟨h2,.str "not" t2,.ref p2⟩,⟨h3,.str "and" t3,.ref p3⟩,⟨h4,.str "or" t4,.ref p4⟩,⟨h5,.str "odd" t5,.ref p5⟩,⟨h6,.str "sum" t6,.ref p6⟩,⟨h7,.str "less" t7,.ref p7⟩,⟨h8,.str "under" t8,.ref p8⟩,⟨h9,.str "same" t9,.ref p9⟩,⟨h10,.str "choice" t10,.ref p10⟩,⟨h11,.str "up" t11,.ref p11⟩,⟨h12,.str "down" t12,.ref p12⟩,⟨h13,.str "join" t13,.ref p13⟩,⟨h14,.str "cut" t14,.ref p14⟩,⟨h15,.str "table" t15,.ref p15⟩]) {uF0:Option Addr} {nF0:Nat} {wF0:Array (Option Value)} {xF0 yF0:Tok} (lF0:K.lookup p0=some ⟨.type "tuple",uF0,.seq #[.int 2 xF0,.int 2 yF0] nF0,wF0⟩) {uF1:Option Addr} {nF1:Nat} {wF1:Array (Option Value)} {xF1 yF1:Tok} (lF1:K.lookup p1=some ⟨.type "tuple",uF1,.seq #[.int 3 xF1,.int 3 yF1] nF1,wF1⟩) {uF2:Option Addr} {nF2:Nat} {wF2:Array (Option Value)} {xF2 yF2:Tok} (lF2:K.lookup p2=some ⟨.type "tuple",uF2,.seq #[.int 2 xF2,.int 1 yF2] nF2,wF2⟩) {uF3:Option Addr} {nF3:Nat} {wF3:Array (Option Value)} {xF3 yF3:Tok} (lF3:K.lookup p3=some ⟨.type "tuple",uF3,.seq #[.int 3 xF3,.int 1 yF3] nF3,wF3⟩) {uF4:Option Addr} {nF4:Nat} {wF4:Array (Option Value)} {xF4 yF4:Tok} (lF4:K.lookup p4=some ⟨.type "tuple",uF4,.seq #[.int 3 xF4,.int 1 yF4] nF4,wF4⟩) {uF5:Option Addr} {nF5:Nat} {wF5:Array (Option Value)} {xF5 yF5:Tok} (lF5:K.lookup p5=some ⟨.type "tuple",uF5,.seq #[.int 3 xF5,.int 1 yF5] nF5,wF5⟩) {uF6:Option Addr} {nF6:Nat} {wF6:Array (Option Value)} {xF6 yF6:Tok} (lF6:K.lookup p6=some ⟨.type "tuple",uF6,.seq #[.int 3 xF6,.int 1 yF6] nF6,wF6⟩) {uF7:Option Addr} {nF7:Nat} {wF7:Array (Option Value)} {xF7 yF7:Tok} (lF7:K.lookup p7=some ⟨.type "tuple",uF7,.seq #[.int 3 xF7,.int 1 yF7] nF7,wF7⟩) {uF8:Option Addr} {nF8:Nat} {wF8:Array (Option Value)} {xF8 yF8:Tok} (lF8:K.lookup p8=some ⟨.type "tuple",uF8,.seq #[.int 3 xF8,.int 1 yF8] nF8,wF8⟩) {uF9:Option Addr} {nF9:Nat} {wF9:Array (Option Value)} {xF9 yF9:Tok} (lF9:K.lookup p9=some ⟨.type "tuple",uF9,.seq #[.int 3 xF9,.int 1 yF9] nF9,wF9⟩) {uF10:Option Addr} {nF10:Nat} {wF10:Array (Option Value)} {xF10 yF10:Tok} (lF10:K.lookup p10=some ⟨.type "tuple",uF10,.seq #[.int 4 xF10,.int 1 yF10] nF10,wF10⟩) {uF11:Option Addr} {nF11:Nat} {wF11:Array (Option Value)} {xF11 yF11:Tok} (lF11:K.lookup p11=some ⟨.type "tuple",uF11,.seq #[.int 3 xF11,.int 2 yF11] nF11,wF11⟩) {uF12:Option Addr} {nF12:Nat} {wF12:Array (Option Value)} {xF12 yF12:Tok} (lF12:K.lookup p12=some ⟨.type "tuple",uF12,.seq #[.int 3 xF12,.int 2 yF12] nF12,wF12⟩) {uF13:Option Addr} {nF13:Nat} {wF13:Array (Option Value)} {xF13 yF13:Tok} (lF13:K.lookup p13=some ⟨.type "tuple",uF13,.seq #[.int 3 xF13,.int 1 yF13] nF13,wF13⟩) {uF14:Option Addr} {nF14:Nat} {wF14:Array (Option Value)} {xF14 yF14:Tok} (lF14:K.lookup p14=some ⟨.type "tuple",uF14,.seq #[.int 4 xF14,.int 3 yF14] nF14,wF14⟩) {uF15:Option Addr} {nF15:Nat} {wF15:Array (Option Value)} {xF15 yF15:Tok} (lF15:K.lookup p15=some ⟨.type "tuple",uF15,.seq #[.int 4 xF15,.int 3 yF15] nF15,wF15⟩)
  {t_MOST_TABLE_WIDTH:Tok} (g_MOST_TABLE_WIDTH:PySem.W.nsIn K mainGlobals "MOST_TABLE_WIDTH" = some (some (.int 4 t_MOST_TABLE_WIDTH)))
  : ∃ A:Ad,A.a_law=fa/\(∀ (s:Shared) (v:Value),BindsTo s A.d_law ⟨[v],[]⟩ [("_law_script",v)])/\Tx w K mg A:=by
 have e:=hfa.symm.trans (PySem.W.mg_of X G a23)
 cases e
 have F0:=y_t (st:=s_two_to) l0 c0 k0
 have F1:=y_t (st:=y_e) l1 c1 k1
 have F2:=y_t (st:=y_z) l2 c2 k2
 have F3:=y_t (st:=y_f) l3 c3 k3
 have F4:=y_t (st:=s_spread) l4 c4 k4
 have F5:=y_t (st:=y_c) l5 c5 k5
 have F6:=y_t (st:=x_b) l6 c6 k6
 have F7:=y_t (st:=y_d) l7 c7 k7
 have F8:=y_t (st:=y_m) l8 c8 k8
 have F9:=y_t (st:=x_a) l9 c9 k9
 have F10:=y_t (st:=y_o) l10 c10 k10
 have F11:=y_t (st:=y_q) l11 c11 k11
 have F12:=y_t (st:=x_g) l12 c12 k12
 have F13:=y_t (st:=s_worth) l13 c13 k13
 have F14:=y_t (st:=y_n) l14 c14 k14
 have F15:=y_t (st:=y_a) l15 c15 k15
 have F16:=y_t (st:=y_b) l16 c16 k16
 have F17:=y_t (st:=y_p) l17 c17 k17
 have F18:=y_t (st:=s_L_bag) l18 c18 k18
 have F19:=y_t (st:=s_L_take) l19 c19 k19
 have F20:=y_t (st:=s_L_pool) l20 c20 k20
 have F21:=y_t (st:=s_L_same) l21 c21 k21
 have F22:=y_t (st:=s_L_run) l22 c22 k22
 have F23:=y_t (st:=s_law) l23 c23 k23
 refine ⟨⟨f0,PySem.W.fnOf "two_to" "two_to" (z_k s_two_to) (z_j s_two_to) (z_g s_two_to) .none kV0 dc0 pm0 an0 cd0 ct0,f1,PySem.W.fnOf "sayings_in" "sayings_in" (z_k y_e) (z_j y_e) (z_g y_e) .none kV1 dc1 pm1 an1 cd1 ct1,f2,PySem.W.fnOf "wires_in" "wires_in" (z_k y_z) (z_j y_z) (z_g y_z) .none kV2 dc2 pm2 an2 cd2 ct2,f3,PySem.W.fnOf "width_over" "width_over" (z_k y_f) (z_j y_f) (z_g y_f) .none kV3 dc3 pm3 an3 cd3 ct3,f4,PySem.W.fnOf "spread" "spread" (z_k s_spread) (z_j s_spread) (z_g s_spread) .none kV4 dc4 pm4 an4 cd4 ct4,f5,PySem.W.fnOf "brings_rows" "brings_rows" (z_k y_c) (z_j y_c) (z_g y_c) .none kV5 dc5 pm5 an5 cd5 ct5,f6,PySem.W.fnOf "rows_of" "rows_of" (z_k x_b) (z_j x_b) (z_g x_b) .none kV6 dc6 pm6 an6 cd6 ct6,f7,PySem.W.fnOf "rows_of_use" "rows_of_use" (z_k y_d) (z_j y_d) (z_g y_d) .none kV7 dc7 pm7 an7 cd7 ct7,f8,PySem.W.fnOf "fronts_of" "fronts_of" (z_k y_m) (z_j y_m) (z_g y_m) .none kV8 dc8 pm8 an8 cd8 ct8,f9,PySem.W.fnOf "renamed" "renamed" (z_k x_a) (z_j x_a) (z_g x_a) .none kV9 dc9 pm9 an9 cd9 ct9,f10,PySem.W.fnOf "order_of" "order_of" (z_k y_o) (z_j y_o) (z_g y_o) .none kV10 dc10 pm10 an10 cd10 ct10,f11,PySem.W.fnOf "waits_of" "waits_of" (z_k y_q) (z_j y_q) (z_g y_q) .none kV11 dc11 pm11 an11 cd11 ct11,f12,PySem.W.fnOf "ring_in" "ring_in" (z_k x_g) (z_j x_g) (z_g x_g) .none kV12 dc12 pm12 an12 cd12 ct12,f13,PySem.W.fnOf "worth" "worth" (z_k s_worth) (z_j s_worth) (z_g s_worth) .none kV13 dc13 pm13 an13 cd13 ct13,f14,PySem.W.fnOf "measured" "measured" (z_k y_n) (z_j y_n) (z_g y_n) .none kV14 dc14 pm14 an14 cd14 ct14,f15,PySem.W.fnOf "worth_of_one" "worth_of_one" (z_k y_a) (z_j y_a) (z_g y_a) .none kV15 dc15 pm15 an15 cd15 ct15,f16,PySem.W.fnOf "worth_of_two" "worth_of_two" (z_k y_b) (z_j y_b) (z_g y_b) .none kV16 dc16 pm16 an16 cd16 ct16,f17,PySem.W.fnOf "run_plan" "run_plan" (z_k y_p) (z_j y_p) (z_g y_p) .none kV17 dc17 pm17 an17 cd17 ct17,f18,PySem.W.fnOf "_law_bag" "_law_bag" (z_k s_L_bag) (z_j s_L_bag) (z_g s_L_bag) .none kV18 dc18 pm18 an18 cd18 ct18,f19,PySem.W.fnOf "_law_take" "_law_take" (z_k s_L_take) (z_j s_L_take) (z_g s_L_take) .none kV19 dc19 pm19 an19 cd19 ct19,f20,PySem.W.fnOf "_law_pool" "_law_pool" (z_k s_L_pool) (z_j s_L_pool) (z_g s_L_pool) .none kV20 dc20 pm20 an20 cd20 ct20,f21,PySem.W.fnOf "_law_same" "_law_same" (z_k s_L_same) (z_j s_L_same) (z_g s_L_same) .none kV21 dc21 pm21 an21 cd21 ct21,f22,PySem.W.fnOf "_law_run" "_law_run" (z_k s_L_run) (z_j s_L_run) (z_g s_L_run) .none kV22 dc22 pm22 an22 cd22 ct22,fa,PySem.W.fnOf "law" "law" (z_k s_law) (z_j s_law) (z_g s_law) .none kV23 dc23 pm23 an23 cd23 ct23,d_FORMS,C_ForgeError,C_Ring⟩,rfl,fun s v=>.of_eq rfl,?_⟩
 exact ⟨PySem.W.mg_none_of X G z0,PySem.W.mg_none_of X G z1,PySem.W.mg_none_of X G z2,PySem.W.mg_none_of X G z3,PySem.W.mg_none_of X G z4,PySem.W.mg_none_of X G z5,PySem.W.mg_none_of X G z6,PySem.W.mg_none_of X G z7,PySem.W.mg_none_of X G z8,PySem.W.mg_none_of X G z9,PySem.W.mg_none_of X G z10,PySem.W.mg_none_of X G z11,PySem.W.mg_none_of X G z12,PySem.W.mg_none_of X G z13,⟨_,PySem.W.mg_of X G g_MOST_WIDTH⟩,PySem.W.mg_of X G g_FORMS,⟨[("wire",.ref p0),("number",.ref p1),("not",.ref p2),("and",.ref p3),("or",.ref p4),("odd",.ref p5),("sum",.ref p6),("less",.ref p7),("under",.ref p8),("same",.ref p9),("choice",.ref p10),("up",.ref p11),("down",.ref p12),("join",.ref p13),("cut",.ref p14),("table",.ref p15)],⟨⟨es,n_F,l_FORMS,kF,by rw [eF];repeat (first | exact .nil | refine .cons ⟨⟨_,rfl⟩,rfl⟩ ?_)⟩,lo_F⟩,fun z hz=>by
  simp only [words,List.mem_cons,List.not_mem_nil,or_false] at hz
  rcases hz with rfl | rfl | rfl | rfl | rfl | rfl | rfl | rfl | rfl | rfl | rfl | rfl | rfl | rfl | rfl | rfl
  ·exact ⟨p0,rfl,fun H=>.inr ⟨_,_,_,lF0,rfl,rfl,(by show 2<=sizeLine;decide),.cons ⟨_,rfl⟩ (.cons ⟨_,rfl⟩ .nil)⟩⟩
  ·exact ⟨p1,rfl,fun H=>.inr ⟨_,_,_,lF1,rfl,rfl,(by show 2<=sizeLine;decide),.cons ⟨_,rfl⟩ (.cons ⟨_,rfl⟩ .nil)⟩⟩
  ·exact ⟨p2,rfl,fun H=>.inr ⟨_,_,_,lF2,rfl,rfl,(by show 2<=sizeLine;decide),.cons ⟨_,rfl⟩ (.cons ⟨_,rfl⟩ .nil)⟩⟩
  ·exact ⟨p3,rfl,fun H=>.inr ⟨_,_,_,lF3,rfl,rfl,(by show 2<=sizeLine;decide),.cons ⟨_,rfl⟩ (.cons ⟨_,rfl⟩ .nil)⟩⟩
  ·exact ⟨p4,rfl,fun H=>.inr ⟨_,_,_,lF4,rfl,rfl,(by show 2<=sizeLine;decide),.cons ⟨_,rfl⟩ (.cons ⟨_,rfl⟩ .nil)⟩⟩
  ·exact ⟨p5,rfl,fun H=>.inr ⟨_,_,_,lF5,rfl,rfl,(by show 2<=sizeLine;decide),.cons ⟨_,rfl⟩ (.cons ⟨_,rfl⟩ .nil)⟩⟩
  ·exact ⟨p6,rfl,fun H=>.inr ⟨_,_,_,lF6,rfl,rfl,(by show 2<=sizeLine;decide),.cons ⟨_,rfl⟩ (.cons ⟨_,rfl⟩ .nil)⟩⟩
  ·exact ⟨p7,rfl,fun H=>.inr ⟨_,_,_,lF7,rfl,rfl,(by show 2<=sizeLine;decide),.cons ⟨_,rfl⟩ (.cons ⟨_,rfl⟩ .nil)⟩⟩
  ·exact ⟨p8,rfl,fun H=>.inr ⟨_,_,_,lF8,rfl,rfl,(by show 2<=sizeLine;decide),.cons ⟨_,rfl⟩ (.cons ⟨_,rfl⟩ .nil)⟩⟩
  ·exact ⟨p9,rfl,fun H=>.inr ⟨_,_,_,lF9,rfl,rfl,(by show 2<=sizeLine;decide),.cons ⟨_,rfl⟩ (.cons ⟨_,rfl⟩ .nil)⟩⟩
  ·exact ⟨p10,rfl,fun H=>.inr ⟨_,_,_,lF10,rfl,rfl,(by show 2<=sizeLine;decide),.cons ⟨_,rfl⟩ (.cons ⟨_,rfl⟩ .nil)⟩⟩
  ·exact ⟨p11,rfl,fun H=>.inr ⟨_,_,_,lF11,rfl,rfl,(by show 2<=sizeLine;decide),.cons ⟨_,rfl⟩ (.cons ⟨_,rfl⟩ .nil)⟩⟩
  ·exact ⟨p12,rfl,fun H=>.inr ⟨_,_,_,lF12,rfl,rfl,(by show 2<=sizeLine;decide),.cons ⟨_,rfl⟩ (.cons ⟨_,rfl⟩ .nil)⟩⟩
  ·exact ⟨p13,rfl,fun H=>.inr ⟨_,_,_,lF13,rfl,rfl,(by show 2<=sizeLine;decide),.cons ⟨_,rfl⟩ (.cons ⟨_,rfl⟩ .nil)⟩⟩
  ·exact ⟨p14,rfl,fun H=>.inr ⟨_,_,_,lF14,rfl,rfl,(by show 2<=sizeLine;decide),.cons ⟨_,rfl⟩ (.cons ⟨_,rfl⟩ .nil)⟩⟩
  ·exact ⟨p15,rfl,fun H=>.inr ⟨_,_,_,lF15,rfl,rfl,(by show 2<=sizeLine;decide),.cons ⟨_,rfl⟩ (.cons ⟨_,rfl⟩ .nil)⟩⟩⟩,⟨_,PySem.W.mg_of X G g_MOST_TABLE_WIDTH⟩,F0,F0.binds fun _ _ _ _ _ _ us hl=>of_len1 (fun _=>rfl) us hl,PySem.W.mg_of X G a0,F1,F1.binds fun _ _ _ _ _ _ us hl=>of_len1 (fun _=>rfl) us hl,PySem.W.mg_of X G a1,F2,F2.binds fun _ _ _ _ _ _ us hl=>of_len1 (fun _=>rfl) us hl,PySem.W.mg_of X G a2,F3,F3.binds fun _ _ _ _ _ _ us hl=>of_len2 (fun _ _=>rfl) us hl,PySem.W.mg_of X G a3,F4,F4.binds fun _ _ _ _ _ _ us hl=>of_len1 (fun _=>rfl) us hl,PySem.W.mg_of X G a4,F5,F5.binds fun _ _ _ _ _ _ us hl=>of_len2 (fun _ _=>rfl) us hl,PySem.W.mg_of X G a5,F6,F6.binds fun _ _ _ _ _ _ us hl=>of_len3 (fun _ _ _=>rfl) us hl,PySem.W.mg_of X G a6,F7,F7.binds fun _ _ _ _ _ _ us hl=>of_len3 (fun _ _ _=>rfl) us hl,PySem.W.mg_of X G a7,F8,F8.binds fun _ _ _ _ _ _ us hl=>of_len2 (fun _ _=>rfl) us hl,PySem.W.mg_of X G a8,F9,F9.binds fun _ _ _ _ _ _ us hl=>of_len2 (fun _ _=>rfl) us hl,PySem.W.mg_of X G a9,F10,F10.binds fun _ _ _ _ _ _ us hl=>of_len1 (fun _=>rfl) us hl,PySem.W.mg_of X G a10,F11,F11.binds fun _ _ _ _ _ _ us hl=>of_len1 (fun _=>rfl) us hl,PySem.W.mg_of X G a11,F12,F12.binds fun _ _ _ _ _ _ us hl=>of_len2 (fun _ _=>rfl) us hl,PySem.W.mg_of X G a12,F13,F13.binds fun _ _ _ _ _ _ us hl=>of_len3 (fun _ _ _=>rfl) us hl,PySem.W.mg_of X G a13,F14,F14.binds fun _ _ _ _ _ _ us hl=>of_len3 (fun _ _ _=>rfl) us hl,PySem.W.mg_of X G a14,F15,F15.binds fun _ _ _ _ _ _ us hl=>of_len3 (fun _ _ _=>rfl) us hl,PySem.W.mg_of X G a15,F16,F16.binds fun _ _ _ _ _ _ us hl=>of_len4 (fun _ _ _ _=>rfl) us hl,PySem.W.mg_of X G a16,F17,F17.binds fun _ _ _ _ _ _ us hl=>of_len2 (fun _ _=>rfl) us hl,PySem.W.mg_of X G a17,F18,F18.binds fun _ _ _ _ _ _ us hl=>of_len2 (fun _ _=>rfl) us hl,PySem.W.mg_of X G a18,F19,F19.binds fun _ _ _ _ _ _ us hl=>of_len2 (fun _ _=>rfl) us hl,PySem.W.mg_of X G a19,F20,F20.binds fun _ _ _ _ _ _ us hl=>of_len2 (fun _ _=>rfl) us hl,PySem.W.mg_of X G a20,F21,F21.binds fun _ _ _ _ _ _ us hl=>of_len2 (fun _ _=>rfl) us hl,PySem.W.mg_of X G a21,F22,F22.binds fun _ _ _ _ _ _ us hl=>of_len5 (fun _ _ _ _ _=>rfl) us hl,PySem.W.mg_of X G a22,F23,F23.binds fun _ _ _ _ _ _ us hl=>of_len1 (fun _=>rfl) us hl,PySem.W.mg_of X G a23,PySem.W.mg_of X G aC_ForgeError,PySem.W.mg_of X G aC_Ring⟩
theorem walk{l:PySem.W.OpenLaw}{q:Program}{loose:List Str}{XP:(Str->Option Value)->Heap->Prop}{YP:World->Heap->Prop}{d:DefRec}{K:Params->PySem.W.Frag}(hn:l.most=some 63)(hdf:d.params.defaults=[])(hnm:d.name = "law")
  (hY:∀ (w:World) (h:Heap),YP w h->(K w.params).In h)
  (F:∀ (w:World) (mg:Str->Option Value) (fa:Addr) (h:Heap),(K w.params).In h->h.Ns mainGlobals mg->mg "law" = some (.ref fa) ->
   ∃ A:Ad,A.a_law=fa/\(∀ (s:Shared) (v:Value),BindsTo s A.d_law ⟨[v],[]⟩ [("_law_script",v)])/\Tx w (K w.params) mg A) :
  PySem.W.WalkO q loose XP YP l.row.toRowW d [] (fun f vs=>PySem.call f vs):=by
 refine L2.walk_of (n:=63) (k:=13) (x := "_law_script") (CX:=fun _=>CX0) (sp:=fun w=>sp_law (K w.params)) hn (by decide) hdf ⟨rfl,by decide,by decide⟩ hY (fun w mg fa h k1 k2 k3=>?_) (fun _ _ a ns hl _ hS=>⟨a,ns,rfl,hS,hl,fun _=>rfl⟩) fun _ _ _ _ _ z=>z
 obtain ⟨A,rfl,hb,T⟩:=F w mg fa h k1 k2 (by rw [<-hnm];exact k3)
 exact ⟨A.d_law,hb,fun base _ _=>all_ok T⟩
abbrev hS(x:String)(t:Nat):Value:=.str (Str.ofString x) t
abbrev hE(P:Params)(x:String)(t:Nat)(v:Value):DictEntry:=⟨PyData.keyHash P (Str.ofString x),.str (Str.ofString x) t,v⟩
abbrev hF(n q:String)(st:Stmt)(df kd doc pm:Value)(an:Option Addr)(cd ct:Value):Obj:=⟨.type "function",none,.func (PySem.W.fnOf n q (z_k st) (z_j st) (z_g st) df kd doc pm an cd ct),#[]⟩
abbrev hC(n q:String)(t:Nat)(l a k:Int)(r1 r2:Nat)(x y:Value)(r3:Nat)(u:Int)(z:Nat):Obj:=⟨.type "code",none,.fields [hS n t,hS q (t+1),hS "/claim/cut.py" (t+2),.int l 0,.int a 0,.int 0 0,.int 0 0,.int k 0,.ref r1,.bool true,.int 181 0,.ref r2,.none,x,y,.ref r3,.int u 0,.int l 0,hS "/claim/cut.py" z].toArray,#[]⟩
def hK:Params->PySem.W.Frag:=fun P =>
 (nat_lit 2,⟨.none,none,.dict ([]).toArray 0,#[]⟩) ::
 (nat_lit 3,⟨(.type "dict"),none,.dict (hE P "__name__" 165 (hS "law_lampforge_k15_boxes_all_at_once" 453)::hE P "__doc__" 166 .none::hE P "__package__" 167 .none::hE P "__loader__" 168 (.builtin "__main__.__loader__#opaque")::hE P "__spec__" 169 .none::hE P "__annotations__" 170 (.ref 6)::hE P "__builtins__" 171 (.ref 4)::hE P "__file__" 173 (hS "/claim/cut.py" 172)::hE P "__cached__" 174 .none::hE P "ForgeError" 206 (.ref 24)::hE P "Ring" 231 (.ref 44)::hE P "MOST_WIDTH" 235 (.int 8 234)::hE P "FORMS" 300 (.ref 47)::hE P "two_to" 309 (.ref 70)::hE P "MOST_TABLE_WIDTH" 313 (.int 4 312)::hE P "sayings_in" 320 (.ref 77)::hE P "wires_in" 329 (.ref 84)::hE P "width_over" 340 (.ref 91)::hE P "spread" 352 (.ref 98)::hE P "brings_rows" 358 (.ref 103)::hE P "rows_of" 369 (.ref 110)::hE P "rows_of_use" 375 (.ref 115)::hE P "fronts_of" 381 (.ref 120)::hE P "renamed" 387 (.ref 125)::hE P "order_of" 395 (.ref 130)::hE P "waits_of" 401 (.ref 135)::hE P "ring_in" 407 (.ref 140)::hE P "worth" 418 (.ref 147)::hE P "measured" 424 (.ref 152)::hE P "worth_of_one" 434 (.ref 159)::hE P "worth_of_two" 444 (.ref 166)::hE P "run_plan" 452 (.ref 171)::hE P "_law_bag" 465 (.ref 178)::hE P "_law_take" 474 (.ref 185)::hE P "_law_pool" 480 (.ref 190)::hE P "_law_same" 486 (.ref 195)::hE P "_law_run" 492 (.ref 200)::hE P "law" 498 (.ref 205)::[]).toArray 38,#[]⟩) ::
 (nat_lit 22,⟨(.type "tuple"),none,.seq [].toArray 0,#[]⟩) ::
 (nat_lit 23,⟨(.type "dict"),none,.dict (hE P "__module__" 196 (hS "lampforge.errors" 187)::hE P "__firstlineno__" 200 (.int 2 199)::hE P "__static_attributes__" 201 (.ref 22)::hE P "__weakref__" 203 (.ref 25)::hE P "__doc__" 204 .none::[]).toArray 3,#[]⟩) ::
 (nat_lit 24,⟨(.type "type"),none,.cls { name := "ForgeError",bases:=[(.type "ValueError")],mro:=[(.ref 24),(.type "ValueError"),(.type "Exception"),(.type "BaseException"),(.type "object")],ns:=23,qualname := "ForgeError",hasDict:=true,subclasses:=[(.ref 44)],abstract:=false,hasDel:=false },#[some (.ref 15),none,some (hS "ForgeError" 189),some (hS "ForgeError" 197),some (.builtin "ValueError.__new__"),some (.bool true)]⟩) ::
 (nat_lit 25,⟨(.type "getset_descriptor"),none,.fields [(hS "__weakref__" 202),(.ref 24),(.builtin "ExceptionGroup.__weakref__"),.none].toArray,#[]⟩) ::
 (nat_lit 40,hC "__init__" "Ring.__init__" 219 6 2 3 35 36 (.ref 37) (.ref 38) 39 224 225) ::
 (nat_lit 41,hF "__init__" "Ring.__init__" s_Ring_init .none .none .none (hS "lampforge.errors" 187) none (.ref 40) .none) ::
 (nat_lit 42,⟨(.type "tuple"),none,.seq [(hS "names" 227)].toArray 0,#[]⟩) ::
 (nat_lit 43,⟨(.type "dict"),none,.dict (hE P "__module__" 214 (hS "lampforge.errors" 187)::hE P "__firstlineno__" 218 (.int 4 217)::hE P "__init__" 226 (.ref 41)::hE P "__static_attributes__" 228 (.ref 42)::hE P "__doc__" 229 .none::[]).toArray 2,#[]⟩) ::
 (nat_lit 44,⟨(.type "type"),none,.cls { name := "Ring",bases:=[(.ref 24)],mro:=[(.ref 44),(.ref 24),(.type "ValueError"),(.type "Exception"),(.type "BaseException"),(.type "object")],ns:=43,qualname := "Ring",hasDict:=true,subclasses:=[],abstract:=false,hasDel:=false },#[some (.ref 28),none,some (hS "Ring" 207),some (hS "Ring" 215),some (.builtin "ValueError.__new__"),some (.bool true)]⟩) ::
 (nat_lit 47,⟨(.type "dict"),none,.dict (hE P "wire" 236 (.ref 48)::hE P "number" 240 (.ref 49)::hE P "not" 244 (.ref 50)::hE P "and" 248 (.ref 51)::hE P "or" 252 (.ref 52)::hE P "odd" 256 (.ref 53)::hE P "sum" 260 (.ref 54)::hE P "less" 264 (.ref 55)::hE P "under" 268 (.ref 56)::hE P "same" 272 (.ref 57)::hE P "choice" 276 (.ref 58)::hE P "up" 280 (.ref 59)::hE P "down" 284 (.ref 60)::hE P "join" 288 (.ref 61)::hE P "cut" 292 (.ref 62)::hE P "table" 296 (.ref 63)::[]).toArray 16,#[]⟩) ::
 (nat_lit 48,⟨(.type "tuple"),none,.seq [(.int 2 237),(.int 2 238)].toArray 0,#[]⟩) ::
 (nat_lit 49,⟨(.type "tuple"),none,.seq [(.int 3 241),(.int 3 242)].toArray 0,#[]⟩) ::
 (nat_lit 50,⟨(.type "tuple"),none,.seq [(.int 2 245),(.int 1 246)].toArray 0,#[]⟩) ::
 (nat_lit 51,⟨(.type "tuple"),none,.seq [(.int 3 249),(.int 1 250)].toArray 0,#[]⟩) ::
 (nat_lit 52,⟨(.type "tuple"),none,.seq [(.int 3 253),(.int 1 254)].toArray 0,#[]⟩) ::
 (nat_lit 53,⟨(.type "tuple"),none,.seq [(.int 3 257),(.int 1 258)].toArray 0,#[]⟩) ::
 (nat_lit 54,⟨(.type "tuple"),none,.seq [(.int 3 261),(.int 1 262)].toArray 0,#[]⟩) ::
 (nat_lit 55,⟨(.type "tuple"),none,.seq [(.int 3 265),(.int 1 266)].toArray 0,#[]⟩) ::
 (nat_lit 56,⟨(.type "tuple"),none,.seq [(.int 3 269),(.int 1 270)].toArray 0,#[]⟩) ::
 (nat_lit 57,⟨(.type "tuple"),none,.seq [(.int 3 273),(.int 1 274)].toArray 0,#[]⟩) ::
 (nat_lit 58,⟨(.type "tuple"),none,.seq [(.int 4 277),(.int 1 278)].toArray 0,#[]⟩) ::
 (nat_lit 59,⟨(.type "tuple"),none,.seq [(.int 3 281),(.int 2 282)].toArray 0,#[]⟩) ::
 (nat_lit 60,⟨(.type "tuple"),none,.seq [(.int 3 285),(.int 2 286)].toArray 0,#[]⟩) ::
 (nat_lit 61,⟨(.type "tuple"),none,.seq [(.int 3 289),(.int 1 290)].toArray 0,#[]⟩) ::
 (nat_lit 62,⟨(.type "tuple"),none,.seq [(.int 4 293),(.int 3 294)].toArray 0,#[]⟩) ::
 (nat_lit 63,⟨(.type "tuple"),none,.seq [(.int 4 297),(.int 3 298)].toArray 0,#[]⟩) ::
 (nat_lit 69,hC "two_to" "two_to" 301 12 1 3 64 65 (.ref 66) (.ref 67) 68 307 308) ::
 (nat_lit 70,hF "two_to" "two_to" s_two_to .none .none .none (hS "lampforge.words" 232) none (.ref 69) .none) ::
 (nat_lit 76,hC "sayings_in" "sayings_in" 314 19 1 3 71 72 (.ref 73) (.ref 74) 75 318 319) ::
 (nat_lit 77,hF "sayings_in" "sayings_in" y_e .none .none .none (hS "lampforge.sayings" 310) none (.ref 76) .none) ::
 (nat_lit 83,hC "wires_in" "wires_in" 321 21 1 3 78 79 (.ref 80) (.ref 81) 82 327 328) ::
 (nat_lit 84,hF "wires_in" "wires_in" y_z .none .none .none (hS "lampforge.sayings" 310) none (.ref 83) .none) ::
 (nat_lit 90,hC "width_over" "width_over" 330 28 2 3 85 86 (.ref 87) (.ref 88) 89 338 339) ::
 (nat_lit 91,hF "width_over" "width_over" y_f .none .none .none (hS "lampforge.sayings" 310) none (.ref 90) .none) ::
 (nat_lit 97,hC "spread" "spread" 343 46 1 3 92 93 (.ref 94) (.ref 95) 96 350 351) ::
 (nat_lit 98,hF "spread" "spread" s_spread .none .none .none (hS "lampforge.spread" 341) none (.ref 97) .none) ::
 (nat_lit 102,hC "brings_rows" "brings_rows" 353 53 2 3 99 100 .none .none 101 356 357) ::
 (nat_lit 103,hF "brings_rows" "brings_rows" y_c .none .none .none (hS "lampforge.spread" 341) none (.ref 102) .none) ::
 (nat_lit 109,hC "rows_of" "rows_of" 359 57 3 3 104 105 (.ref 106) (.ref 107) 108 367 368) ::
 (nat_lit 110,hF "rows_of" "rows_of" x_b .none .none .none (hS "lampforge.spread" 341) none (.ref 109) .none) ::
 (nat_lit 114,hC "rows_of_use" "rows_of_use" 370 65 3 3 111 112 .none .none 113 373 374) ::
 (nat_lit 115,hF "rows_of_use" "rows_of_use" y_d .none .none .none (hS "lampforge.spread" 341) none (.ref 114) .none) ::
 (nat_lit 119,hC "fronts_of" "fronts_of" 376 77 2 3 116 117 .none .none 118 379 380) ::
 (nat_lit 120,hF "fronts_of" "fronts_of" y_m .none .none .none (hS "lampforge.spread" 341) none (.ref 119) .none) ::
 (nat_lit 124,hC "renamed" "renamed" 382 82 2 3 121 122 .none .none 123 385 386) ::
 (nat_lit 125,hF "renamed" "renamed" x_a .none .none .none (hS "lampforge.spread" 341) none (.ref 124) .none) ::
 (nat_lit 129,hC "order_of" "order_of" 390 88 1 3 126 127 .none .none 128 393 394) ::
 (nat_lit 130,hF "order_of" "order_of" y_o .none .none .none (hS "lampforge.looks" 388) none (.ref 129) .none) ::
 (nat_lit 134,hC "waits_of" "waits_of" 396 107 1 3 131 132 .none .none 133 399 400) ::
 (nat_lit 135,hF "waits_of" "waits_of" y_q .none .none .none (hS "lampforge.looks" 388) none (.ref 134) .none) ::
 (nat_lit 139,hC "ring_in" "ring_in" 402 118 2 3 136 137 .none .none 138 405 406) ::
 (nat_lit 140,hF "ring_in" "ring_in" x_g .none .none .none (hS "lampforge.looks" 388) none (.ref 139) .none) ::
 (nat_lit 146,hC "worth" "worth" 410 126 3 3 141 142 (.ref 143) (.ref 144) 145 416 417) ::
 (nat_lit 147,hF "worth" "worth" s_worth .none .none .none (hS "lampforge.worths" 408) none (.ref 146) .none) ::
 (nat_lit 151,hC "measured" "measured" 419 128 3 3 148 149 .none .none 150 422 423) ::
 (nat_lit 152,hF "measured" "measured" y_n .none .none .none (hS "lampforge.worths" 408) none (.ref 151) .none) ::
 (nat_lit 158,hC "worth_of_one" "worth_of_one" 425 145 3 3 153 154 (.ref 155) (.ref 156) 157 432 433) ::
 (nat_lit 159,hF "worth_of_one" "worth_of_one" y_a .none .none .none (hS "lampforge.worths" 408) none (.ref 158) .none) ::
 (nat_lit 165,hC "worth_of_two" "worth_of_two" 435 156 4 3 160 161 (.ref 162) (.ref 163) 164 442 443) ::
 (nat_lit 166,hF "worth_of_two" "worth_of_two" y_b .none .none .none (hS "lampforge.worths" 408) none (.ref 165) .none) ::
 (nat_lit 170,hC "run_plan" "run_plan" 447 171 2 3 167 168 .none .none 169 450 451) ::
 (nat_lit 171,hF "run_plan" "run_plan" y_p .none .none .none (hS "lampforge.runs" 445) none (.ref 170) .none) ::
 (nat_lit 177,hC "_law_bag" "_law_bag" 455 193 2 3 172 173 (.ref 174) (.ref 175) 176 463 464) ::
 (nat_lit 178,hF "_law_bag" "_law_bag" s_L_bag .none .none .none (hS "law_lampforge_k15_boxes_all_at_once" 453) none (.ref 177) .none) ::
 (nat_lit 184,hC "_law_take" "_law_take" 466 201 2 3 179 180 (.ref 181) (.ref 182) 183 472 473) ::
 (nat_lit 185,hF "_law_take" "_law_take" s_L_take .none .none .none (hS "law_lampforge_k15_boxes_all_at_once" 453) none (.ref 184) .none) ::
 (nat_lit 189,hC "_law_pool" "_law_pool" 475 208 2 3 186 187 .none .none 188 478 479) ::
 (nat_lit 190,hF "_law_pool" "_law_pool" s_L_pool .none .none .none (hS "law_lampforge_k15_boxes_all_at_once" 453) none (.ref 189) .none) ::
 (nat_lit 194,hC "_law_same" "_law_same" 481 217 2 3 191 192 .none .none 193 484 485) ::
 (nat_lit 195,hF "_law_same" "_law_same" s_L_same .none .none .none (hS "law_lampforge_k15_boxes_all_at_once" 453) none (.ref 194) .none) ::
 (nat_lit 199,hC "_law_run" "_law_run" 487 225 5 3 196 197 .none .none 198 490 491) ::
 (nat_lit 200,hF "_law_run" "_law_run" s_L_run .none .none .none (hS "law_lampforge_k15_boxes_all_at_once" 453) none (.ref 199) .none) ::
 (nat_lit 204,hC "law" "law" 493 235 1 3 201 202 .none .none 203 496 497) ::
 (nat_lit 205,hF "law" "law" s_law .none .none .none (hS "law_lampforge_k15_boxes_all_at_once" 453) none (.ref 204) .none)::[]
def hA:List Addr:=nat_lit 2::nat_lit 3::nat_lit 22::nat_lit 23::nat_lit 24::nat_lit 25::nat_lit 40::nat_lit 41::nat_lit 42::nat_lit 43::nat_lit 44::nat_lit 47::nat_lit 48::nat_lit 49::nat_lit 50::nat_lit 51::nat_lit 52::nat_lit 53::nat_lit 54::nat_lit 55::nat_lit 56::nat_lit 57::nat_lit 58::nat_lit 59::nat_lit 60::nat_lit 61::nat_lit 62::nat_lit 63::nat_lit 69::nat_lit 70::nat_lit 76::nat_lit 77::nat_lit 83::nat_lit 84::nat_lit 90::nat_lit 91::nat_lit 97::nat_lit 98::nat_lit 102::nat_lit 103::nat_lit 109::nat_lit 110::nat_lit 114::nat_lit 115::nat_lit 119::nat_lit 120::nat_lit 124::nat_lit 125::nat_lit 129::nat_lit 130::nat_lit 134::nat_lit 135::nat_lit 139::nat_lit 140::nat_lit 146::nat_lit 147::nat_lit 151::nat_lit 152::nat_lit 158::nat_lit 159::nat_lit 165::nat_lit 166::nat_lit 170::nat_lit 171::nat_lit 177::nat_lit 178::nat_lit 184::nat_lit 185::nat_lit 189::nat_lit 190::nat_lit 194::nat_lit 195::nat_lit 199::nat_lit 200::nat_lit 204::nat_lit 205::[]
def hV:Program:={ PySem.Challenge.pw_lampforge_k15_boxes_all_at_once with main:={ PySem.Challenge.pw_lampforge_k15_boxes_all_at_once.main with body:=[top 1,top 2,top 4,top 5,top 6,top 8,top 9,top 10,top 11,top 13,top 14,top 15,top 16,top 17,top 18,top 20,top 21,top 22,top 24,top 25,top 26,top 27,top 29,top 31,top 32,top 33,top 34,top 35,top 36] } }
abbrev hL:List Str:=[Str.ofString "FORMS"]
theorem hQ:∀ P,hA=(hK P).map (·.1):=fun _=>by kernel_rfl
end K15
open PySem PySem.W PyProof.Rows
set_option maxRecDepth 100000 in
set_option maxHeartbeats 0 in
theorem PySem.Challenge.cw_lampforge_k15_boxes_all_at_once_holds : PySem.Challenge.rw_lampforge_k15_boxes_all_at_once.Holds := by
 w_on;o_law
 refine PySem.W.holds_open (q:=K15.hV) (loose:=K15.hL) (Xt:=fun s=>PySem.W.xlAt K15.hV [] s&&PySem.W.recOk (PySem.W.RowW.records PySem.Challenge.rw_lampforge_k15_boxes_all_at_once.row.toRowW) s) (XP:=PySem.W.XL K15.hV []) (Yf:=PySem.W.Hook.obs (PySem.W.kHook K15.hK K15.hA K15.hQ)) (Ya:=PySem.W.Hook.val (PySem.W.kHook K15.hK K15.hA K15.hQ)) (YP:=PySem.W.Hook.says (PySem.W.kHook K15.hK K15.hA K15.hQ)) (N:=3138) ?hl (PySem.W.Hook.of (PySem.W.kHook K15.hK K15.hA K15.hQ)) (PySem.W.Hook.keeps (PySem.W.kHook K15.hK K15.hA K15.hQ)) (fun s e=>PySem.W.xl_of s (Bool.and_eq_true_iff.mp e).1) PySem.W.XL.keeps (by rfl) (by rfl) (by rfl) (fun s e=>PySem.W.recFacts_of (Bool.and_eq_true_iff.mp e).2) (by rfl) (by first | assumption | decide +kernel) (by decide +kernel) ⟨rfl,rfl,rfl,rfl,rfl,by decide +kernel⟩ ?hw ?hc
 case hl=>exact PySem.W.LeftO.of_split "special-get-raises" (fun w=>by kernel_rfl)
 (case hw=>w_witness2)
 k_fill
 refine K15.walk (l:=PySem.Challenge.rw_lampforge_k15_boxes_all_at_once) rfl rfl rfl (fun w h Y=>PySem.W.kIn_of Y) ?F
 case F =>
  intro w mg fa h KX G hmg
  refine' K15.all_mk KX G hmg ?aC_ForgeError ?aC_Ring ?a0 ?l0 ?c0 ?k0 ?a1 ?l1 ?c1 ?k1 ?a2 ?l2 ?c2 ?k2 ?a3 ?l3 ?c3 ?k3 ?a4 ?l4 ?c4 ?k4 ?a5 ?l5 ?c5 ?k5 ?a6 ?l6 ?c6 ?k6 ?a7 ?l7 ?c7 ?k7 ?a8 ?l8 ?c8 ?k8 ?a9 ?l9 ?c9 ?k9 ?a10 ?l10 ?c10 ?k10 ?a11 ?l11 ?c11 ?k11 ?a12 ?l12 ?c12 ?k12 ?a13 ?l13 ?c13 ?k13 ?a14 ?l14 ?c14 ?k14 ?a15 ?l15 ?c15 ?k15 ?a16 ?l16 ?c16 ?k16 ?a17 ?l17 ?c17 ?k17 ?a18 ?l18 ?c18 ?k18 ?a19 ?l19 ?c19 ?k19 ?a20 ?l20 ?c20 ?k20 ?a21 ?l21 ?c21 ?k21 ?a22 ?l22 ?c22 ?k22 ?a23 ?l23 ?c23 ?k23 ?z0 ?z1 ?z2 ?z3 ?z4 ?z5 ?z6 ?z7 ?z8 ?z9 ?z10 ?z11 ?z12 ?z13 ?g_MOST_WIDTH ?g_FORMS ?l_FORMS ?kF ?lo_F ?eF ?lF0 ?lF1 ?lF2 ?lF3 ?lF4 ?lF5 ?lF6 ?lF7 ?lF8 ?lF9 ?lF10 ?lF11 ?lF12 ?lF13 ?lF14 ?lF15 ?g_MOST_TABLE_WIDTH
  (case aC_ForgeError=>k_is)
  (case aC_Ring=>k_is)
  (case a0=>k_is)
  (case l0=>k_is)
  (case c0=>k_is)
  (case k0=>k_is)
  (case a1=>k_is)
  (case l1=>k_is)
  (case c1=>k_is)
  (case k1=>k_is)
  (case a2=>k_is)
  (case l2=>k_is)
  (case c2=>k_is)
  (case k2=>k_is)
  (case a3=>k_is)
  (case l3=>k_is)
  (case c3=>k_is)
  (case k3=>k_is)
  (case a4=>k_is)
  (case l4=>k_is)
  (case c4=>k_is)
  (case k4=>k_is)
  (case a5=>k_is)
  (case l5=>k_is)
  (case c5=>k_is)
  (case k5=>k_is)
  (case a6=>k_is)
  (case l6=>k_is)
  (case c6=>k_is)
  (case k6=>k_is)
  (case a7=>k_is)
  (case l7=>k_is)
  (case c7=>k_is)
  (case k7=>k_is)
  (case a8=>k_is)
  (case l8=>k_is)
  (case c8=>k_is)
  (case k8=>k_is)
  (case a9=>k_is)
  (case l9=>k_is)
  (case c9=>k_is)
  (case k9=>k_is)
  (case a10=>k_is)
  (case l10=>k_is)
  (case c10=>k_is)
  (case k10=>k_is)
  (case a11=>k_is)
  (case l11=>k_is)
  (case c11=>k_is)
  (case k11=>k_is)
  (case a12=>k_is)
  (case l12=>k_is)
  (case c12=>k_is)
  (case k12=>k_is)
  (case a13=>k_is)
  (case l13=>k_is)
  (case c13=>k_is)
  (case k13=>k_is)
  (case a14=>k_is)
  (case l14=>k_is)
  (case c14=>k_is)
  (case k14=>k_is)
  (case a15=>k_is)
  (case l15=>k_is)
  (case c15=>k_is)
  (case k15=>k_is)
  (case a16=>k_is)
  (case l16=>k_is)
  (case c16=>k_is)
  (case k16=>k_is)
  (case a17=>k_is)
  (case l17=>k_is)
  (case c17=>k_is)
  (case k17=>k_is)
  (case a18=>k_is)
  (case l18=>k_is)
  (case c18=>k_is)
  (case k18=>k_is)
  (case a19=>k_is)
  (case l19=>k_is)
  (case c19=>k_is)
  (case k19=>k_is)
  (case a20=>k_is)
  (case l20=>k_is)
  (case c20=>k_is)
  (case k20=>k_is)
  (case a21=>k_is)
  (case l21=>k_is)
  (case c21=>k_is)
  (case k21=>k_is)
  (case a22=>k_is)
  (case l22=>k_is)
  (case c22=>k_is)
  (case k22=>k_is)
  (case a23=>k_is)
  (case l23=>k_is)
  (case c23=>k_is)
  (case k23=>k_is)
  (case z0=>k_is)
  (case z1=>k_is)
  (case z2=>k_is)
  (case z3=>k_is)
  (case z4=>k_is)
  (case z5=>k_is)
  (case z6=>k_is)
  (case z7=>k_is)
  (case z8=>k_is)
  (case z9=>k_is)
  (case z10=>k_is)
  (case z11=>k_is)
  (case z12=>k_is)
  (case z13=>k_is)
  (case g_MOST_WIDTH=>k_is)
  (case g_FORMS=>k_is)
  (case l_FORMS=>k_is)
  (case kF=>k_keys)
  (case lo_F=>decide)
  (case eF=>rfl)
  (case lF0=>k_is)
  (case lF1=>k_is)
  (case lF2=>k_is)
  (case lF3=>k_is)
  (case lF4=>k_is)
  (case lF5=>k_is)
  (case lF6=>k_is)
  (case lF7=>k_is)
  (case lF8=>k_is)
  (case lF9=>k_is)
  (case lF10=>k_is)
  (case lF11=>k_is)
  (case lF12=>k_is)
  (case lF13=>k_is)
  (case lF14=>k_is)
  (case lF15=>k_is)
  (case g_MOST_TABLE_WIDTH=>k_is)
