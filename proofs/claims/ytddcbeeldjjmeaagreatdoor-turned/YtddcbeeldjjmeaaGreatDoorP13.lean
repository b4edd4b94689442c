/- A MAP's KEYS, in. -/
import Derived.Test.YtddcbeeldjjmeaaGreatDoorP12
import Derived.Sort.KeysCollected
set_option linter.unusedVariables false
namespace Go.bQ
open Go Go.Maps Go.RowKit Go.Sort
variable{P:Program}{K0:TypeId}{w:World}{b n:Nat}{F:Lit->Option Value}
theorem bu.told(h:bu P K0 w b n F)(K:Keyed P K0)(hk:P.underlying K0=some .string):∃D,w.ownsMap P K0 om b n D/\Maps.size D<=n/\∀ss:List (List UInt8),ss.Perm (strKeys D)->ss.Nodup/\∀k,k∈ss↔F (.string k)≠none:=by
 obtain⟨D,h,s⟩:=h;refine⟨D,h,h.size_le,fun ss hp=>?_⟩;obtain⟨es,hD,hpw⟩:=h.tidy K;obtain⟨es',hD',hko⟩:=h.keysOf;obtain rfl:es=es':=by rw[hD]at hD';simpa using hD'
 have hstr:∀p∈es,∃x,p.1= .string x:=fun p hp=>by obtain⟨v,hv⟩:=hko p hp;obtain⟨x,_,hx,_⟩:=Maps.keyOf_str hk hv;exact⟨x,hx⟩
 subst hD;have hnd:(es.map fun p=>strOf p.1).Nodup:=by refine List.pairwise_map.2 (hpw.imp_of_mem fun{p q}hp' hq' hne e=>hne ?_);obtain⟨a,ha⟩:=hstr p hp';obtain⟨c,hc⟩:=hstr q hq';rw[ha,hc]at e⊢;exact congrArg _ e
 refine⟨hp.symm.nodup hnd,fun k=>?_⟩;rw[hp.mem_iff];have h1:=s.has (.string k);rw[has_eq]at h1;constructor;{intro hm;obtain⟨p,hp',e⟩:=List.mem_map.1 hm;obtain⟨a,ha⟩:=hstr p hp';(have e2:a=k:=by rw[ha]at e;exact e);have h2:(es.any fun p=>p.1.sameKey (.string k))=true:=List.any_eq_true.2 ⟨p,hp',by rw[ha,e2];simp[Lit.sameKey]⟩;intro e3;rw[h2,e3]at h1;cases h1};.intro hne;(have h2:(es.any fun p=>p.1.sameKey (.string k))=true:=by rw[h1];cases hF:F (.string k)with|none=>exact absurd hF hne|some _=>rfl);obtain⟨p,hp',e⟩:=List.any_eq_true.1 h2;obtain⟨a,ha⟩:=hstr p hp';rw[ha]at e;refine List.mem_map.2 ⟨p,hp', ?_⟩;rw[ha];simpa[Lit.sameKey,strOf]using e
