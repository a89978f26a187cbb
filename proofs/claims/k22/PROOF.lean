import PyProof.Rows.All
import Wide.All
import OpenK.AllK
import Wide.FinOn
import Lean
import PyProof.EqAt
import PyProof.EqKinds
import PyProof.TupleCall
import PySem.Str
import PyProof.ZipIter
import PyProof.Draws
import PyProof.StrLawsChain
import PyProof.StrLawsTight
import KE.KIntText
import OpenK.KTop
import PyProof.StationsW
import PyProof.ExcClass2
import PyProof.ExcBaseAll.ValueError
import PyProof.Rows.Catch
import OpenK.KOwn
import KE.KTryMore
import KE.FramesApart
import PyProof.RulesAs
import PyProof.NsDelKeeps
import PyProof.ExcArgs
import PyProof.Rows.SortStr
import KE.KDictSum
import PyProof.DictWalks
import PyProof.IsiH_list
import KE.KDictOf
import PyProof.NeKinds
import PyProof.StrCalls6
import PyProof.FString
import KE.KUnpack
import KE.KItemsList
import KE.KRevIter
import KE.IntBitsLaws
import PyProof.FString5
import PyProof.TupleKey
import Wide.Seal
import PyProof.Rows.SortShellK
import PyProof.DictRoadsH
import PyProof.Rows.SortRev
import PyProof.Rows.SetFrom
import PyProof.FactsAll.set_2
import PyProof.FactsAll.set_1
import PyProof.Rows.SortShell
import PyProof.Tail
import KE.KMinKey
import PyProof.ExcArgsOwn
import PyProof.ExcAttrAll.ValueError
import KE.KRevSl
import PyProof.FactsAll.dict_itemiterator_1
import PyProof.TupleOfSeq
import PySem.Challenge.RW_askwright_k22_chains_and_rings
local macro_rules|`(↑$x)=>`(($x).length)
local macro_rules|`(tactic|simp! [$x,*] $[$l:location]?)=>`(tactic|simp only [$x,*] $[$l]?)|`(tactic|dsimp! [$x,*] $[$l:location]?)=>`(tactic|dsimp only [$x,*] $[$l]?)
set_option hygiene false in
local macro_rules | `(command| #print $s:str) => do { let mut a := #[]; let mut n := 0; let mut k := 0; for c in s.getString.toList do { let v := c.toNat; n := n*64+(if v<58 then v-48 else if v<91 then v-55 else if v==95 then 62 else if v==126 then 63 else v-61); k := k+1; if k%11==0 then { a := a.push (Lean.mkIdent (Lean.Name.mkSimple ("tw"++toString n))); n := 0 } }; `(structure PySem.W.Fast:Prop where ($a*:True)) }
set_option maxRecDepth 100000 in
#print "6FXyF1tmGu3C_S7isiVUXt9Mot0M53ZbVBwwAZ4AMFQKBU2EA1tasa4AWckOxZG8yo9FNp7yOaeCtAVL6udOabwb6~yq2rgWCeBBxG0R8nW5nc3l57t0OkozZ769hGwnjZcjBlREjB5kFBm2hMXd0zUL_iAtwNkes~MSqByk1luRblHh8GzXwZ5BnZS6czsHXZRSNCBJaO8OztrobABHUhWuY81yBEGcC_1NOvz4BEBnpCctXg3EzAEJg2_Ey7ROIgKI1nUOF6D_LuVPBxt5BSLxXu6e_w1JQoFZmrBw~CJ4IRgimZ1sDHV6cvf58Rs96KvlHB2uWGAJbKx~uMDD77pYHW4itQoXD0XFvUolqxT4DhZpJozrvD76oFmCSjCEZ17fIwKAhi3G3x60TPcDuSGABbiz8sUIshAzTchtNhLuK9a~IVtBPOszClFaobcO5z43frtiH_1OyB6r9~JN64haL7aamxew9oFpFoakr0dQ4NS5K4flZsWy3ME7RRQtCoZCAEgGhk2aT4EA1yZjfn78mCG0kftutqDMYbC28E0el3njU6XGGUTfmvDHAyBzMGLP7yW8ozpSrWBLv2FeBsW9yTvGY92TbMYWsRIC7rQPs4Uww0Q68Q0QTTiUVz6WNlGPlJLwf0ZO4A4W1lt~BC_eEk8yZVgCs441NymNXd4aiqCZxq9xJ4q92O5aXx~g1hVoE1WSQ600C3Kqzi~ZWh9rSBQMT9S1B2gGw04b7uboB3fsZ0f7dRr2RaO60eilnx42ngs25FuVmDsw_RrF6U~p8__exSOa~uR3kMnZiNxV42DqhqiQgTlmp1pAkft1fe6fDoE5H4os9Y50qYJAZqvxhh5fUT4jrC2gxDoEEzZPKkYo54jVYkrVvyi4hyf5rytkUMB4pvVC8QaX7AEd2pCz2nJrElG7JXa_EFd1cZi9pKiAnn21wmVCXR45gF47MtBQd8JS12xAvNOYCB5540~utqnUBO5W2yuCS005BBC46YHjEUogCP~hQzVPYEQ8OFiNkrKVMe0IDj9zPxJGx3d7J_523SDhCdzcqHUkS0W4FJLyhWN8at0cqf7MkoCQC60XwbLmnodb1h2225WY3D4EzBBEF1XUMy1Zj64t8JwqTAYqponcbkuX16BJEg9wY1s7CGQrSARm8T1HYOXDy9AvREvVDeWEEqd95HFogDGDf5y1pt0M5bW1qt3FhcpU55Vjx2otaDY2F7T77k5gJ1HQJD74l2NDwOqudt8szz6bFhlmrEqem3BgJvZQDDLXkpjIFnw3i6eKytj_5w9jLEQH8~p0dAZXCxeTviRT8dIZbPw_ye59XwkzlpRqx94cRa81W_Uth6enSe7rDkiU1OF6DYftQDJ4catPfMkRRU1gm9fWcFyr82ven_mhSn9Y5LQXrCWFucc0E5Cn1pil8o2pZ33WqxEdO5Fxu5CFo71rDUmvNuEDlx_DWLhKy_wIx715Dgr9Aptp06vK7DjniL6SF7witYJbq_ZAT7_dkJI~YWFna~_0WuEP27FGqPtplkMx3VDxgbZHWds6tc_z0CVghy6m1F4gyle2~Bm2VjvRndke8RYcblCloiL3~fufjR8e2w9fcGg1cCXr08cTAawR~JVNAmFh5X4Kn2CBL13bjzsCUI2mJlHvFnOyr6p1Ou5M0S5yBMO2ClwwJ6K5kMT5_EKGmSAJ~Py9prmSTFQ34EgbyweH3RXrq2ctKia77BZrTrRs8QDgBiTd98ENy1i4UAw7EnA43CI2sAiUaDa0i4JTFDD5~72fzsdA5SCQG91lLcFgGTlxERrf0Pl_76hDGfLzVnPtEyBVaVN0nMJk40jLe~IO5L~w7decctivmF81GRV84~WWcXCUABnU1ISIy33yrs8V564H87UNGMWkPjn4tbRBx_3Qxz6wR868I9V2kBoMTtqIDUC_6dxSJV4RUVLCJO9NmWvsVf9ii5948~JpiB4UwlMFIZsA4JhHyEeSutVAY8rSPLMhDP2BEcqecykhiC3Q3hzGxGV~35g7Ck26sBE0V3OOlK~5ER5aF_ku6EQVl00GJz7N0aZK0ge6GgUVDjiEHLydra7xcZ8ADFAOgUBZ8BM1IQAhtIBI6G0VNeEZsiU8_oihF5ts0Y2FPjhhMVs_KC47pWeCfRQsBwz3prTBUTj9CZuhNlSHbn01wzS7sOWpQENN3AW4tJluFGnO2agrGYN5ZtQr1aj0fu1NoQepDo9008zandqBd7N08p7Xosu4lEiDr2Fk_8Coxe9ukVPejcFqfCzZDyuv3DBM7u5Ig3fU2XO3nETWKI0r7N9WAbgTlstYz67li_ZnNcPw6UxAi0G1_uODMjQ1febjcw3hdqM~em~bcAtroRiclzY30m5F4pZV9BvBKmNK32T5L94IEZDUktWcG4Qi4pVXKQZWAqTgcM_TUyC96UScH6NGDB4THEMiqMBlI0IkogfiTL5w8IrMkC8BZ_627PT04pSF8RFLpmDSpaA1J4olLtVPrTFXCXvw6efENaF96wIBMI3i5fCYDB62IS2c7EtpXSERE~7ICE91iSnHOuJ896cIHukuGj4fnPBQN9cU25sXUe2WbCHy2IqGnKOqbcZ9Bke5RIDaqyD8xIGBiHIR735HKchx~vvZBEi1dNgwG897Zhz9eCVcL74Cbb__L9bDR1ydPmLqraTy6C6e1XEWYrmBWy~yL~8c715Eol_OxUp8EEUWGZrMiuJ_FYXnIGUcyU2ALFnIOhPPMICYfBsmau3z2EIigQnTwmFC2iHghzP9C1Z0ZGKcF9lhBcAvFqqWmFs_9AtcC20A3O7z4bOGIl0lgMd3Ybd2khOIh67y8CwR9DaZp3QbHUZ3qgVY86BnpdrH55f9CLF3MGqdSx0DpicKvGBPzEERDY5AHFFY20WCUfyISbf92fGrJw4rIM7KqdABZQNusD6I3f1GRVGc7T7ePw_Gkel5M~9EFnBB6g3oXVtjzur8_2_Ehf71naaOBcbgizybiDq4cw1eO03LQEFrBx7caF_cz3bnB6WECTnRFyPf3ZJJXYQF2NarL45KZq0SXf5RBrlnU5GtAkwwW5Tc2OguHjI4jcK3bloB0U7BIL6aXqOGDee2PCVagbOFBEb12F_5F29meLBB1Jj5bLVlyL4kmkHvkn_jsAqIy0J8w1GnBXR88Ghbo9U6jXOqdaaIuC5pOfQ4UDBZVFf69U5dXcRg4IGwcKIWfbn5r2vct8WWF39woZtH9mj6h7N~ETVILXvk8Ktpe0CQajf4J~5ZyPJzNS82CqyPdJCqZ6lyoMxH93140o7QdN8yjF5EyKXoLRZznL70~LphtQW4pBom1NCFhU3G3xd3GgwpPC_6ixsKGY6wXY13Eh_26zQ6a7C3CkwiQsWYCLooeoKVKikDysyyzFrmoaCctaAJvF360AmS58wFwx480C4iM9uP3HEBRCuuO7S4Or8yu6jpju8Ot4uBbQAASg186YGOcrF9V913cAdiGpm_og32yIbCcy30n8OvkjAw7PwS5jhwOeQP~_D8_cD7qZ_9331TKr5kyflC6CglAr0W9x~T9KHeyGK6Sy19JNiuTK_Sqc8B1LtBaIz5l5q1zEAVk7Oa0~qa_h2gFmZ44DTF3VHnvX82eXfJ5UF8035h7tZ7sVPi2PSGXmuRNI22mgIWBRv~f25XhXwbtI4xp91Hftnx3cfjFFbMG4EWMxTFpxhuYGPl4W0HHjDirvz3IAUTbpGnmuJhCc3czKPcdE5CZPSSj3KnMSDLmAdernpMHCg8hzta_LQr43ZMZit5SYD5NFzm4PKRooBcdiw9678nB6KQmI9gfHax10087fDbKl_BbSUWNM3~iTB4iKWbXg9xP7kb5RsJd7iP8vDuU_c24fb7EOyEvGwm0r8SHxntSKjU~FPpfE4KHQ7R6uk8biUoQ9N3Gsng7fiktWFvGfzWw3SDQ0g0eeWr72UhBxCM19XaHv90amDMt6hB3xDlwoM4DkRiL6XLlO68wy8dBNBLixZimC8A2PLMtkFH2dDXYNPdVJ77WB~dtEzWYO5j1fu2VikGXQu2O7kpGYDbKH9VImj9yX2La020xVOcNVFmDIi4tReoP7YEhgpT8WSEf313X6CIIPcGA56pjia3xfWG6_zl4FX2TvEE8lhZQo95xv3wPVW~pgKQ98lW10IwkO0KC7kSmY3g3nTC3xhUQhCHrjBpwk9LudGkg54DFCscvAJs3pelCzR7RCW9~TLFwCeLtXFTqwlteUjK00yfuXPvzBnX9aj2wgM24me7c1PZixJH0aACNQZzP50Ma0cagJBWww5YDjd9t1ytdAs98iXa2zCfr36e8ny9KwP5D6VMk15wgZ2_1DzD2mCGai7Bv9D5S2Hu0q5LMedmU6dt~9f1e7laG4uq858GKNaPIP_3coWruZoRS~217G2tNsOQ59GJR~~2p8NH9Yq7VGofpywCZuPvUMHWvb7dJot8fTMo29AHJTElwtGYDMXX9qLwPvgEaOBDW3GbnYAkH6rf4r0JZ4zSPcalcu4Q6GK8erP7q8u8q6szcqJc_Y11QbQ2qWCtvDJv8XlJ5F1b3S43l8ZjFIYAQy15Q9JR8K0QQDuYSPB4g7hYHLmI_h6F3_PjLEHIIwiFUCi52CxHbeFJ~MhzTO8ad5mSlfY~opUV3NtTxKsVchaCmF9aNKoddODGa3RtEDJ2mDGk3Wt242Vv0aDu2mTtZf49Qv3YYDLq3p3gFbMgDZmS59E6g5ZtB6ct9Be1ERepPBl6GIrDPXuF0HEl2c5PMA6sLDn0Rco5BoQv4epjKicS4cWA3ugarZoDmUFMbs_pbljp~AFZEtaDmVWl737U_o1tanC0q2puLn8bTYEKSQNhv~3az7Cmh4ovsStx1mCldAsiWaM2C6bZOahg9t1F8ILDwxHGjDKKjmRMbz3vDXlycsaOQV94Jp0nJGZHEu9Pt3IU21BzXCqknwrud0u3E3XlL8g3FNl1Qvs2_GbK8m29~6ru9mu8aBJT8zBib2bpCQT4k~085uN8a5lJPHxDNX35k4ECZvSBsCGc6_N6A6x3EQu~DMvkmui6vG1tWedzgDCOY6FI~CBY6BdTLFzyjbNCDqEYyQ45I7I9CcK0A5qgkE8aLTz5IK6FVARhYdNVN_hmA7uHL17XMMW4Eoutmh5Lx066E1dCh3E_81N0Ft0xmoQh8YsRYqo~QaN4yTi4NP2dH227tGC2yptYs6e_V7HpTAKM39k3lUZQmmL65sad6nXUuW5PxHqE7OAoP4kpXiBlW9bbEteLcKKK6ZB0vOpnFHIW0nAukiH4TYlS5Dn_rN75ODOA9FuI5MO7rXvA~QT0pZA_1R1LlmVdMg3iI376lvKlF_Ch4IJRj~5wBpxAAgWSvjRbq27B_WIjKAKeh7_RB1c8PXZtARf1aCehAFt8~wdMSuCAze5KMmHU5vEfr5bHZMNE5hvi4bqNzT9U3uzFk9sGd3xliJCsWmdYNjXrOFE56axbxLHl3c0aGkNV7Qh9mjLtLTBjcgB49mED6evUiAyD~6hVtNNw6bKwjtdWVYa7qMz64H50vW6aolWd0beVG3mRuaXVC5RpFAALwHf7qSH27fvyOjYKJAEcVGRMRqIfX1~TkReRULO5A_04tV9Oic19hAGY0Mewin4tnAzxoAZQkEsux7ude12b98qvoXH53pfEcAsdneCGXC2Z5RUoVOV0K8s7xQg_eYhBAzC~5btJ0k1EQSHWb_3r5A06mvcAKNvO54cnSQRCIKnN3YogM6QTPCo7te_M~Tab5i6dHLgiO3Dy2CWgolkVZPfzAXIe5Oc6Bc_6U8PQ1QnskeBQHVc4X7hjK33d1HaTa6W5BbZy7U6paeyBoH5d6ZUuOn8IDkWmCdzOE9uqXYTJvA~zBokhC~88_Hp98w_gIRN3BKFnNNA3Ijz5Q6NSrqO73K99CsLES_JPofp6dhmYhUtupKDR8cwzhr8Fy8UBMYvqeAqD2RGqzeYBnuu3XPz_8qrXRg1KDkKniHjP57X4FrsS7OLY4YHJVNiZ2lrA5cENKLD08o9rNuA2TMQsRCnvhaEIyIeX4d3Sv3f9HCo3e74wm1UBfO0hxO2k_5YhRDSVbVuEJxDA08p7yNnjXDjC4IGleJfc937U~Q2lbJkpY4mOUZziRQLa2LV5bUugAwM5eeLcve8perFjEAEL0WEhr6BNWxFQt1Oa3zjak38xBEq0jwb~zTyDnY10yTdjMGQIz64CdXa9T5z79863Iz8RKklFUWpmcEZ0YRCdgIJChA_owA4T~BEtCYs799s9GKZl9Yb5GI9U~LrG3I1c5AySQt24o9WZig7MK8C79EyQApks1tc3NbITKnDEY4C7b32v3~G0H202rnZHXRSN0gx~RZoooxt8CEh3R_Kv~yEoVVUDyt_VN99THwouqTbJ6MdRgLYCEoI56LuKgVu~EUEMYczIxadPOCbkI_9uI4l4AE8XEwXs0j35eKMVAfywzK1Ii3zHmM36dEZC_rc3Lnlr4qzV5nCQe5mA4TBtENOTSE6tPptKsBmnW8VbhZDzSiiT6tp4bmdBtKS7LUOQbjXk8F0BYUAItpqx~2e~zELIUmCEDHGKBau_31b3l35PCpjwHsE_BTbXDnD6hANYwLWNvWBHDjIJUBhyIvXA6cqo7cafDa35nuyvio6pB5I5Y2QHC8SP2~NPssYL43Y5WgUw2thhgOD22VmvtBIDxE6wi900sjnuB5A4O4RW~PIAw8zGfvs_NcAmh1LWb0zoCEfczjb2wKJpEm~4dxlbow03p4AZrMvOD7CXBfk6suNJT0ehDeQANAPR4e1_Z_e8v8FCUoYP3Kfv~m4SNQLFaUFgS24JEhHP0G2HBU8wlPLgzMd74Ogn11BKNOEotBly5EDbD1AKp~VSbGRF10R3nKAidgkAjoLDUmxwA1FMXmX4e5Z9lFQokaPPaX5oAKjC19~kStzCAA__au4wE99lQjyWgwapg0e5a6zwsgKr4pSU4~bIpdMDE2s5mZk~Hl0Wf6EEzAmxs3hwDZKOGC1O2LjevsjjbLl8MwkBdnOwyM5fd0UzA8lxr5H0olp8dyjZ3wmInMcCRZr4~KGOabzROvBhC5dskuPHbCIL1Mwzvwc76Z~H75v6reDD9mukfcBTNY3xpHot_k1DJ1Y5J8PrOoN24gmahtrpAYh92OtwrW8d526dWu75MOGtb9qrrF0bAtYT7XSXiWS79_HFvtCGkiKTYNEqdoZdUBfLc9KpRdRcDSXt6T703nlJQUK0Dwyz4c~1X02wd6MdAGAIQ4IM98QMzFdu4Bv6kVS_afKC3egX55KPys8gyVXRyxWH7CScZs~Y34sz2xgMYEeRuTzACfizQQLUj_D4e1fbBOkpACCBTqj0nog1DtOWc3B9hwp3RdoVPeWyDC3Ie_kD1CXw5FaUpdnRjgxh5nE~OoBDqIN5w8gAyibapkE1Bxc8WpTY_DvjCJgonrv2C3nv5AHqSsIBrU4jLvLWZH3Rxjg4Wlsbu8uBgIKy5i5gA9wgGQBSYsx5xIU0bZzDtQAKxuPwbjW~cCkSVV6BRRHJ7sC2EGX1AyB1jTtD0WIMfl"
set_option bootstrap.genMatcherCode false
set_option genSizeOf false
set_option compiler.extract_closed false
local macro_rules | `(tactic| trivial) => `(tactic| first | rfl | exact .inl rfl | exact .inr rfl | exact .inr (.inl rfl) | decide +kernel | (intro _; rfl) | omega | exact ⟨rfl,rfl,rfl,by decide +kernel,rfl,by decide +kernel,by decide +kernel⟩ | (intro _ _ _ _ _ _ us hl; rcases us with _|⟨_,_|⟨_,_|⟨_,_|⟨_,_|⟨_,_|⟨_,_⟩⟩⟩⟩⟩⟩ <;> first | rfl | cases hl) | (intro _ _ _ _ h; cases h; subst_vars; rfl))
set_option hygiene false in
local macro_rules | `(tactic| ac_rfl) => `(tactic| ((try dsimp only);first|assumption|exact Inv.tk (by assumption)|exact Nat.succ_pos _|exact Nat.lt_of_lt_of_le (Inv.tk (by assumption)) (by assumption)|exact Nat.add_pos_left (Inv.tk (by assumption)) _|omega))
local macro_rules | `(()) => `(by trivial)
local macro_rules | `(#[$f:ident,$n:num,$xs,*]) => do let h ← `(_); let b ← `(by trivial); let mut a := Array.replicate n.getNat h; for x in xs.getElems do { match x.raw.isNatLit? with | some k => a := a ++ Array.replicate k h | none => a := a.push (if x.raw.isOfKind ``Lean.Parser.Term.hole then b else x) }; `(@$f $a*)
local macro_rules | `(⟨$xs,*⟩) => do let h ← `(_); let r ← `(rfl); let mut a := #[]; let mut c := false; for x in xs.getElems do { match x.raw.isNatLit? with | some 0 => { a := (a.push h).push r; c := true } | some _ => { a := a.push r; c := true } | none => a := a.push x }; if c then `(⟨$a,*⟩) else Lean.Macro.throwUnsupported
set_option hygiene false
local macro_rules | `(#v[$xs,*]) => do let mut r ← `(qh); for x in xs.getElems.reverse do { r ← `(#[qf,5,$x,$r,_]) }; return r
local macro_rules | `(%[$xs,*|$k]) => do let mut r ← `(#[qj,3,$k]); for x in xs.getElems.reverse do { r ← `(#[qg,5,$x,$r]) }; return r
local macro_rules|`(#[ZT,$a,$b])=>`(#[ZT,7,$a,$b])|`(#[QD,$a])=>`(#[QD,4,$a])|`(#[Qo,$a])=>`(#[Qo,3,$a,_])|`(#[qA,$a,$b,$c,$d])=>`(#[qA,9,$a,_,$b,$c,$d,_,_,_,_])|`(#[Q7,$a,$b,$c])=>`(#[Q7,2,$a,2,_,$b,$c,rfl,_,_])|`(#[xJ,$a])=>`(#[xJ,4,$a])|`(#[qt,$a,$b,$c])=>`(#[qt,8,$a,$b,$c,qE _])|`(#[qag,$a])=>`(#[qag,4,_,$a,_])|`(#[qv,$a])=>`(#[qv,4,$a])|`(#[Yh,$a,$b,$c])=>`(#[Yh,8,uI,rfl,$a,$b,$c,_])|`(#[qU,$a,$b])=>`(#[qU,2,$a,1,$b,rfl,Or.inl rfl,_])|`(#[qD,$a,$b,$c])=>`(#[qD,2,$a,4,$b,rfl,Or.inl rfl,$c,_,_])|`(#[QA,$a])=>`(#[QA,4,$a])|`(#[qB,$a])=>`(#[qB,5,$a])|`(#[ji,$a,$b])=>`(#[ji,6,uI,$a,$b])|`(#[qJ,$a,$b,$c])=>`(#[qJ,7,$a,$b,$c,(λ_ _=>rfl)])|`(#[zm,$a,$b])=>`(#[zm,7,$a,$b])|`(#[Jy,$a])=>`(#[Jy,4,$a])|`(#[Qd,$a])=>`(#[Qd,4,$a,_])|`(#[Y4,$a,$b,$c,$d,$e,$f])=>`(#[Y4,12,$a,$b,$c,$d,$e,$f,_,_,_,_,_])|`(#[zk,$a,$b,$c,$d,$e,$f])=>`(#[zk,2,$a,(1),$b,9,$c,rfl,$d,$e,(λ_ _ _ _ _ _=> @yp _),$f,_])|`(#[qS,$a,$b,$c])=>`(#[qS,8,$a,$b,$c])|`(#[qK,$a,$b,$c])=>`(#[qK,8,$a,$b,$c])|`(#[qy,$a,$b:ident,$c])=>`(#[qy,16,$a,hr.mono (),_,$(Lean.mkIdent (b.getId++`m)),$(Lean.mkIdent (b.getId++`F.kp)),$(Lean.mkIdent (b.getId++`b)),.nil,qH,$c,_,_,_])|`(#[YZ,$a,$b,$c,$d])=>`(#[YZ,8,$a,$b,$c,$d])|`(#[ym,$a,$b,$c])=>`(#[ym,8,$a,$b,$c])|`(#[pe_gR,$a])=>`(#[pe_gR,4,_,$a,_])|`(#[qR,$a,$b,$c,$d])=>`(#[qR,9,$a,_,$b,$c,$d,_,_,_,_])|`(#[Yc,$a,$b,$c,$d])=>`(#[Yc,10,$a,$b,$c,$d])|`(#[YT,$a])=>`(#[YT,3,$a])|`(#[pi_tup,$a])=>`(#[pi_tup,4,$a])|`(#[Ql,$a])=>`(#[Ql,6,Qs hr,pv 0,$a,(λ_ _=>rfl)])|`(#[pe_one,$a])=>`(#[pe_one,5,$a])|`(#[Qi,$a])=>`(#[Qi,8,pv 0,$a,rfl])|`(#[YO,$a,$b,$c])=>`(#[YO,9,Qs hr,$a,$b,$c,rfl])|`(#[Qw,$a,$b,$c:ident,$d,$e])=>`(#[Qw,20,$a,$b,$(Lean.mkIdent (c.getId++`h)),$d,hr.mono (),$(Lean.mkIdent (c.getId++`b)),.nil,qH,$e,_,_,_])|`(#[QL,$a,$b,$c:ident,$d,$e])=>`(#[QL,17,$a,$b,$(Lean.mkIdent (c.getId++`h)),$d,$e,$(Lean.mkIdent (c.getId++`b)),.nil,qH,_])|`(#[xF,$a])=>`(#[xF,6,$a,_])|`(#[kZ,$a,$b,$c])=>`(#[kZ,5,$a,$b,$c])|`(#[Zd,$a])=>`(#[Zd,4,$a])|`(#[wn,$a])=>`(#[wn,4,$a])|`(#[yN,$a])=>`(#[yN,6,_,T.Y3,$a,_])|`(#[Za,$a,$b,$c,$d,$e:ident,$f,$g])=>`(#[Za,17,$a,$b,$c,_,$d,$(Lean.mkIdent (e.getId++`b)),.nil,$f,$g,_,_,_])|`(#[JX,$a,$b,$c])=>`(#[JX,5,$a,$b,$c])|`(#[w])=>`((by with_unfolding_all rfl))|`(#[X,X])=>`((model X.prog X.w))|`(#[w,w])=>`((model prog w))|`(#[Y,$a,$b])=>`((⟨$a,$b⟩:Sy.Ss (SyP qs)))|`(#[K,$a,$b,$c,$d,$e])=>`(FnOk P w K mg base CX0 $a $b $c $d $e)|`(#[K,$s:str])=>`((PySem.W.nsIn K mainGlobals $s))|`(#[K,$x,$s:str])=>`((PySem.W.findIn K (.ref $x) $s=some none))|`(#[0,$s:ident])=>`($(Lean.mkIdent (s.getId++`heap.objs.size)))|`(#[I])=>`(Inv X ot σ H s)|`(#[$f:ident,T])=>`($f (P:=P) (w:=w) (base:=base) T)|`(#[$f:ident,T,C])=>`($f (P:=P) (w:=w) (base:=base) T C)
local macro_rules|`(tactic|exists $es,*)=>do{let a:=es.getElems;match a[0]!.raw.isNatLit? with|some 2=>let b:=a.extract 1 a.size;`(tactic|intro ot s σ H $b*)|some 6=>let x:Lean.Ident:=⟨a[1]!.raw⟩;let y:Lean.Ident:=⟨a[2]!.raw⟩;`(tactic|obtain ⟨$x:ident,$y:ident⟩:=$(a[3]!) X G $(a[4]!) $(a[5]!) (by rfl'))|some 7=>`(tactic|try dsimp only [cxOf,Cx.nox])|some 3=>`(tactic|(refine ⟨_,$(a[1]!),?_⟩;(try dsimp only [cxOf,Cx.nox]);(try (apply cl_i (a:=K) (b:=a);intro _ _))))|some 4=>`(tactic|try (apply cl_i (a:=K) (b:=a);intro _ _))|some 5=>`(tactic|repeat (first|(with_reducible refine gN_ ?_)|(with_reducible refine seq_0 ?_;intro _ _ _)|(with_reducible refine if_C ?_;intro _ _)|(with_reducible refine while_C ?_;intro _ _)|(with_reducible refine for_C ?_;intro _ _)))|some 8=>let x:Lean.Ident:=⟨a[1]!.raw⟩;let y:Lean.Ident:=⟨a[2]!.raw⟩;`(tactic|((first|refine seq_oC ?_|((apply cl_i (a:=K) (b:=a);intro _ _);refine seq_oC ?_));intro _ _ $x $y _))|some 9=>let x:=Lean.mkIdent (a[1]!.raw.getId++`F.ok);let y:Lean.Ident:=⟨(a.getD 3 (Lean.mkIdent `hr)).raw⟩;`(tactic|refine $x $(a[2]!) (by trivial) (λ_ _ _ s H _ Q E $y h=>?_))|_=>let h←`(?_);let b:=if a.any fun x=>(x.raw.find? (·.isOfKind `Lean.Parser.Term.syntheticHole)).isSome then a else a.push h;`(tactic|((repeat (first|(with_reducible refine gN_ ?_)|(with_reducible refine seq_0 ?_;intro _ _ _)|(with_reducible refine if_C ?_;intro _ _)|(with_reducible refine while_C ?_;intro _ _)|(with_reducible refine for_C ?_;intro _ _)));refine ⟨$b,*⟩))}
set_option hygiene true
set_option hygiene false in
local macro_rules | `(tactic| rfl') => `(tactic| first | exact bo1 (fun _ _ _ _ _ _ _ => rfl) | exact bo2 (fun _ _ _ _ _ _ _ _ => rfl) | exact bo3 (fun _ _ _ _ _ _ _ _ _ => rfl) | exact bo4 (fun _ _ _ _ _ _ _ _ _ _ => rfl))
set_option hygiene false in
local macro_rules|`(tactic|erw [$rs,*])=>do{let rec f (e:Lean.Syntax):Nat->Lean.MacroM (Lean.TSyntax `Lean.Parser.Tactic.rcasesPatLo)|0=>`(Lean.Parser.Tactic.rcasesPatLo|_)|n+1=>do{if e.isIdent then{let x:Lean.Ident:=⟨e⟩;`(Lean.Parser.Tactic.rcasesPatLo|$x:ident)}else{match e with|`([$xs,*])=>do{let mut p:=#[];for x in xs.getElems do{p:=p.push (← f x n)};let q:=p;let t←`(rcasesPat|⟨$q,*⟩);`(Lean.Parser.Tactic.rcasesPatLo|$t:rcasesPat)}|_=>`(Lean.Parser.Tactic.rcasesPatLo|_)}};let mut p:=#[];let mut h:Array Lean.Term:=#[];for r in rs.getElems do{match r with|`(Lean.Parser.Tactic.rwRule|$e:term)=>{if h.size==0 then h:=h.push e else p:=p.push (← f e 9)}|_=>Lean.Macro.throwUnsupported};let q:=p;let g:=h[0]!;`(tactic|obtain ⟨$q,*⟩:=$g)}
local macro_rules|`([$a:term : $b:term])=>`(⟨$a,$b⟩)|`([$a:term : $b:term : $c:term])=>`(⟨$a,$b,$c⟩)
set_option hygiene false in
local macro_rules(kind:=Lean.Parser.Command.declaration)|x=>do{let d:=x[1];let h:=x[0];let k:=d.getKind;let s:=d[2][1][0];let p:=fun (n:Lean.Name) (f:Lean.Name) (t:Array Lean.Name)=>Lean.mkNode `Lean.Parser.Term.explicitBinder #[Lean.mkAtom "(",Lean.mkNullNode #[Lean.mkIdent n],Lean.mkNullNode #[Lean.mkAtom ":",if t.isEmpty then Lean.mkIdent f else Lean.mkNode `Lean.Parser.Term.app #[Lean.mkIdent f,Lean.mkNullNode (t.map fun u=>(Lean.mkIdent u).raw)]],Lean.mkNullNode,Lean.mkAtom ")"];let b:=fun l=>Lean.mkNullNode (d[2][0].getArgs++l);if k==`Lean.Parser.Command.inductive&&s[1].getId==`Sp then return x.setArg 1 (d.setArg 2 (Lean.mkNode d[2].getKind #[b #[p `vs `List #[`V],p `H `Hp #[],p `Q `VK #[],p `E_ `XK #[]],Lean.mkNullNode #[s.setArg 1 (Lean.mkNode `Lean.Parser.Term.prop #[Lean.mkAtom "Prop"])]]))else if k != `Lean.Parser.Command.definition then Lean.Macro.throwUnsupported else if h[6].getNumArgs>0 then return x.setArg 0 ((h.setArg 6 Lean.mkNullNode).setArg 4 (Lean.mkNullNode #[Lean.mkNode `Lean.Parser.Command.noncomputable #[Lean.mkAtom "noncomputable"]]))else if (h.find? (·.isAtom)).isSome||d[2][1].getNumArgs==0 then Lean.Macro.throwUnsupported else{let t:=s[1];let n:=t[1][0].getId;let o:=t[0].getAtomVal=="#["&&(n==`C||n==`T);let l:=if o then #[p `T `Tx #[`K,`mg,`a]]++(if n==`C then #[p `C `Fx #[`K,`w,`mg,`g,`a]]else #[])else #[];return x.setArg 1 (Lean.mkNode `Lean.Parser.Command.theorem #[Lean.mkAtom "theorem",d[1],Lean.mkNode `Lean.Parser.Command.declSig #[b l,if o then s.setArg 1 (t.setArg 1 (t[1].setArg 0 (Lean.mkIdent `K)))else s],d[3]])}}
noncomputable section
set_option Elab.async false
set_option linter.all false
set_option maxRecDepth 100000
set_option maxHeartbeats 4000000
open PySem.W renaming Frag->o0,mg_of->uT,kia_one->vv,callWith_K->UY
open PySem renaming Addr->o6,Value->o7,Shared->o8,Heap->o9,Program->og,World->oh,Around->oj,wpAny_bind->A8,sizeLine_eq->uw,wpAny_pure->uz,boot_len->uH,wpAny_with_toks->uX,wpAny_truthy_bool->vz,wpAny_newObj_type->vA,wpAny_field->vD,wpAny_callSpecial?_slot->vE,wpAny_call_entry->vH,mem_of_lookup->vJ,call_meets->vL,wpAny_mono->vS,typeIs_str->vU,wpAny_Call_Name_kw->U5,tupleKind_room_in1->U6,wpAny_seqItems->Ua,wpAny_passesOwn->Ud,wpAny_setField_rec->Uy,builtinLookup_eq_fast->UG,wpAny_isInstance->UP,wpAny_pyIter_list->V5,wpAny_rule->V6,wpAny_newList->Va,wpAny->Vi,FuncData->Vk,sizeLine->Vl,starEach->Vm,cLine->Vr,compareOp->Vt,backTo->Vu,IsPair->Vx,model->Vz,Scope->VD,sysModules->VF,mainGlobals->VG,IsZip->VL,wpAny_holding->VM,binaryOp->VQ,codeAny->VR,NameKind->VS,getItem->VT,bindL->VU,bindC->VW,sliceBounds->VZ,assignEach->gP,IsPart->gU,unsetMember->gV,assign->gX,pyNext->gZ,atKey->g_,rawInt->G6,callerA->G7,bindArgs->Gb,Result->Ge,bootBuiltins->Gf,field->Gg,Keyword->Gh,wpAny_typeOf->Gi,holding->Gj,valueAt->Gk,Builtin->Go,stored->Gq,backToKw->Gx,tupleKind->GC,CmpOp->GD,keywordEach->GE,attributeBase->GJ,behindInMarks->GK,BindsTo->GN,revObj->GP,Model->GQ,cellsFrom->GR,DictEntry->GS,typeLookup->GT,call_meetsIn->GW,Operator->GX,limitOf->GY,swapsWith->hZ,InCallC->h_,subscripted->Hh,standAt->Hi,strValues->Hj,spliced->Hl,wpAny_execs_nil->Hn,newList->Hq,wpAny_attempt->Hx,wpAny_standAt->HA,typeLookup_type->HK,cellOf->HM,letOwnedTupleGo->HQ,getMethod->HR,closureFor->HS,storeName->HV,operate->HX,Params->HY,pyIter->H_,codeAny_mono->tm,wpAny_load->tq,seq_tuple_add->tF,slicePick->tI,newFunctionEnv->tK,PlainAttrs->tO,wpAny_call->tQ,seqItems?->tR,wpAny_Name->tS,wpAny_specialOf->tW,seqIndex_neg->tX,compEnvC->tZ,concat_meets->T1,seqIndex_of->T2,wpAny_pyIter_tuple->T4,wpAny_Call_method->T6,wpAny_letGo->T8,builtinsNs->Ta,firstArgMember->Td,inplaceOp->Tf,strKind_is->Tn,plainId_quiet->TD,getAttr->TF,noFill_tuple_add->TH,foldedSetIterable->TM,GenState->TR,callWith->TW,leaving->TX,wpAny_onRaise->T_,checkCount->Fa,setItem->Fc,evalPart_none->Fe,meets_str_split_not_found->Fi,pushCells_keeps->Fm,wpAny_of_eq->Fq,wpAny_pyIter_zip->Fs,wpAny_throw->Fw,wpAny_storeName_local->FB,attributeErrorLeaves->FC,IsRangeIter->FJ,wpAny_setField->FN,wpAny_mkText->FQ,callType_codes->FS,meets_str_split_sep->FV,listOfItself->FW,wpAny_loadName_local->FY,wpAny_execs_cons->F_,wpAny_getItem_of->rE,wpAny_loadName_cell->rG,boundAndCalled->rH,codeAny_builtin->rL,meets_str_split_cannot_occur->rQ,wpAny_comprehension_free->rT,wpAny_getItem_list_slice->rW,wpAny_isTrue_Compare1->r_,wpAny_notIn_of->R8,wpAny_assign_Name->R9,split_sep_max_tree->Ra,joinFit_length->Rc,wpAny_pyIter_revIter->Re,call_reversed_list->Rh,intBits_le_64->Rj,evalPart_some->Rk,isSubtype_type->Ro,wpAny_Slice->Rq,getAttrByItsOwn->Ry,wpAny_updateSeq_pair->Rz,getattributeRaised->RI,wpAny_pyNext_list_end->RQ,wpAny_pyNext_list_item->RU,wpAny_Compare1->RZ,interactive->ph,raiseAttrError->pp,wpAny_in_of->pq,wpAny_sequenceKey->pD
open List renaming mem_cons->Ac,mem_singleton->Ae,mem_append->Af,mem_map->Ag,mem_filter->Ah,getElem?_eq_some_iff->Ai,length_map->u9,mem_cons_of_mem->uc,mem_cons_self->ue,getElem?_eq_getElem->uf,map_append->uh,size_toArray->ui,length_cons->uj,length_append->uq,map_cons->ur,not_mem_nil->uA,getElem?_map->uD,mem_of_getElem?->uK,mem_append_right->uM,map_map->uN,find?_cons->uQ,length_singleton->uU,getElem_mem->uW,take_add_one->vb,take_of_length_le->ve,append_nil->vg,lookup_cons->vj,mem_nil_iff->vk,drop_eq_getElem_cons->vm,mem_append_left->vn,length_take->vw,all_cons->vx,take_length->vy,length_drop->vG,length_reverse->vM,nodup_nil->vO,length_filter_le->vP,perm_append_comm->vR,filter_cons->vW,mem_of_mem_drop->vX,mem_of_mem_take->vY,filterMap_cons->U0,nodup_cons->U1,cons_append->U4,mem_of_find?_eq_some->Ub,range_succ->Uf,filterMap_cons_some->Ui,map_nil->Uk,all_map->Ul,map_congr_left->Uo,mem_map_of_mem->Up,eq_nil_of_length_eq_zero->Uq,all_eq_true->Ur,drop_of_length_le->Uu,find?_eq_none->Uz,filter_append->UA,forIn_cons->UD,any_cons->UH,sum_cons->UI,append_assoc->UJ,getElem?_append_right->UM,idxOf_cons_self->UN,getElem?_append_left->UO,take_succ_cons->US,all_append->V3,getLast?_cons_cons->V4,reverse_cons->V8,range->Vn,Nodup->Vy,length->VC,lookup->VJ,getD->VY,range'->gW,set->GG,map_id->Hr,map_drop->Ht,drop_zero->Hu,any_map->Hz,map_take->HF,find?_some->HG,length_nil->HI,take_append_drop->tG,zipWith_cons_cons->tH,any_eq_true->Tg,nodup_append->Tp,take_nil->TC,take_zero->TV,of_mem_zip->TY,range_succ_eq_map->f_,length_range->F0,any_eq_false->Fb,cons_lt_cons_iff->Fj,range'_succ->Fu,map->Fy,forIn_nil->FL,mem_of_getLast?->FR,replicate->rg,getElem?_replicate->rC,zipIdx_cons->rD,find?_append->rM,idxOf_le_length->rP,getElem?_set_self->R1,all_nil->R6,append_of_mem->Rb,getElem?_eq_none->Rp,any_toArray->Rv,filter_nil->RD,getElem?_set_ne->RE,take_sublist->RF,find?->RJ,concat_eq_append->RK,zipIdx_nil->RM,length_replicate->RY,eq_nil_or_concat->pA,mem_cons->uC,mem_singleton->vo,mem_append->Uj
open Bool renaming false_ne_true->ua,and_eq_true->uu,eq_iff_iff->vC,and_true->Um,false_eq_true->UZ,and_self->Vb,true->v_,false->Vh,or_eq_true->HB,true_and->HH,false_and->T0,or_eq_false_iff->Tw,and_false->TN,and_eq_false_iff->rc,false_or->rO,not_eq_true'->RO,and_assoc->pd
open PySem.Heap renaming get?_push_of_some->ud,lt_size->uB,get?_push_size->uE,size_push->vt,get?_update_other->Us,SameBut->GZ,get?_update_self->HU,FlyingW->RC
open Nat renaming le_refl->ug,zero_le->uG,le_trans->uL,ne_of_lt->uO,lt_irrefl->vN,lt_of_le_of_lt->vV,ne_of_gt->vZ,le_add_right->UQ,log2_le_self->UR,lt_or_ge->UV,le_of_lt->V9,mod_lt->Vd,lt_of_lt_of_le->Vw,le_succ->Hg,lt_trans->Hm,zero_add->HC,not_lt_zero->HE,succ->tu,le_total->tU,lt_succ_self->Tj,lt_succ_of_lt->Tu,succ_pos->Fd,mod_eq_of_lt->Fk,min_eq_left->Fp,one_mul->Ft,eq_zero_or_pos->FA,add_mul->r6,succ_le_succ->rf,add_zero->rh,le_of_eq->rY,mod_add_mod->rZ
open Option.some renaming inj->uF,injEq->Pd
open PySem.PassesOwn renaming never->uI
open PySem.F renaming plainAttrs_list->uJ,plainAttrs_str->uV,slot_list_append->vh,type_list_append->vi,entry_str_split->vB,slot_str_split->vI,slot_dict_get->vQ,slot_tuple_iterator_next->U3,args_str_split_2->U7,slot_str_join->U8,type_str_join->U9,entry_dict_get->Ut,type_str_split->Uw,args_tuple_add_2->UU,entry_tuple_add->V0,plainAttrs_dict->V2,slot_str_split->Uv
open PySem.Around renaming in1_units->uS,under->Tl,under_plainId->rN
open PyProof.Rows renaming boot_isinstance->uY,boot_tuple->vc,callWith_type1->vf,slot_tuple_getitem->vK,boot_str->UL,envOfC->Vp,AllBare->V_,sortedS->Gy,IntsAre->GB,seqObj->GM,IsTup->GO,boot_sorted->Hk,boot_dict->Ho,Subscript_->Hs,subscriptTail->Hy,StrsAre->HL,tail_any->HP,Call_->HZ,entry_sorted->tE,args_sorted1->tY,kind_sorted->t_,sorted_out_str->Tb,boot_all->Tc,slot_list_sort->Te,plain_sorted->Ti,strKind_oneLt->Ts,size_push'->Tt,args_list_sort->Tz,keyKind_strs->TB,sortedHeap_at->TJ,sortedHeap_old->TL,entry_list_sort->TQ,list_sort_treeK->TU,isTrue_plain->Fv,boot_reversed->Fz,slicePart_none->RH,subscriptTail_builtinR->RL,entry_tuple_getitem->RX,args_tuple_getitem->pc,tupleItemsOf_->pB,iadd_int->pL,callWith_builtin1->p_
open Array renaming length_toList->v9,getElem?_toList->UF,toList_append->tt,append_assoc->tT,size_append->T5,toList->Ru,size_push->Rx
open Int renaming emod_lt_of_pos->vq,emod_nonneg->vF,toNat_natCast->tL,ediv_one->FX
open PySem.Calls renaming spliced_cons->vT,callWith_builtin->U2,evalArgs_plain->Uc,spliced_nil->Ue,call_function_entry->Ug,Name_function_global->RA,call_len_list->pw
open List.cons renaming injEq->Uh
open PySem.SeqAt.EqAt renaming str_str->Ux,same->UE,int_str->UW,str_int->UX,int_int->V1,of_refs->T9,tuple_int->Fg,str_tuple->Fo,none_str->rB,tuple_str->Ri,int_none->RP,str_none->RT,none_int->RV,int_tuple->pf,bool_bool->pF,bool_int->pI,none_tuple->pM,bool_none->pQ,none_bool->pY,tuple_none->Pc,bool_str->Pg,int_bool->Ph,str_bool->Pi
open Sum.inr renaming inj->UB
open Ne renaming symm->UC
open PySem.SeqAt.RcAt renaming tuples->UK,str_tuple->pN,tuple_str->pO,str_str->pT
open Nat.le renaming dest->Ve
open Option renaming some->u_,none->U_,isNone->GV,map_some->HN,map_eq_none_iff->tM,isSome_none->tP,isSome_map->To,map->Fn,getD_none->rq,isSome_some->rR
open Sum renaming inr->Vj,inl->GH
open PySem.Value renaming ref->Vo,str->VI,none->gS,int->Gn,type->Gu,bool->tj,float->Tq,isInt->R7,bytes->Rg,isStrOf->RG
open PySem.Str renaming join->Vq,length->VX,ofString->Gr,empty->tJ
open ToString renaming toString->Vs
open PySem.SeqAt renaming EqAt->Vv,in_tupleAt->Ff,RcAt->FU,in_listAt->rA,RcNeAt->Rt
open PySem.Txt renaming startswith->VA,slice->gT,slice_le->rV
open PySem.NameKind renaming free->VB,cell->gY
open PySem.Builtin.Str renaming strKind->VH,occurrences->G_
open False renaming elim->VN
open PySem.Spec renaming ltCps->VO
open True renaming intro->VP
open Or renaming inr->VV,inl->G9
open ForIn renaming forIn->gQ
open PySem.StrLaws renaming occBody->Gm,partsFrom->HD,subAt_eq->FG,occ_eq->FK,strSub_toList->RS,glued_eq_join->p9,joinTotal->pE
open PySem.Obj renaming mapSeq->Gz,data_mapFields->R_,mapFields->pC
open PySem.Builtin.SmallTypes renaming nextOf->GF,ownedTupleIsFree->Hw,ownedTupleHandOut->rF
open Unit renaming unit->GL
open ForInStep renaming yield->GU
open PyProof.Rows.IsTup renaming new->hX
open PySem.Builtin.Slice renaming slicePlaces->Hv,sliceAdjust->TK,sliceApplied->rm,sliceFields->pH,slicePartIndex->pS
open PySem.Builtin.List renaming listExtendWith->HJ,listTooLong->T7,listItems->FT,listSameRef->RN,listUpdate->pZ,listLengthHint->Pe
open PySem.Builtin.Tuple renaming tupleExact->HW,tupleItemsOf->Rr,tupleIsExact->Pj
open LawfulMonad renaming pure_bind->tD
open PySem.Code renaming isFrame->tN,frames->FO
open List.Pairwise renaming nil->tV,map->pW
open List.Sublist renaming refl->Tv,map->Rm,append->RW
open PySem.Builtin.Dict renaming updateFrom->FD,selfAndRest->pV
open PySem.Walks renaming strAscii->FH,strWide->pk
open PySem.SeqAt.RcNeAt renaming tuples->FI,str_tuple->pK,tuple_str->Pa,lists->Pf,str_str->Pk
open PySem.Shared renaming heap->rn
open PySem.DictEntry renaming refKey->rJ
open Classical renaming choose_spec->rS,byContradiction->Rs
open PySem.Heap.DictOf renaming new->rX
open List.Nodup renaming sublist->Rf
open PySem.Heap.IsSliceOf renaming new->Rl
open PySem.Heap.SameBut renaming update->RB
open Int.ofNat renaming inj->pG
open PySem.MeetsSeq renaming list_pop_last->pJ
open PySem.Heap.IsList renaming push->pP
open PySem.Builtin.Range renaming rangeSize->pR
open List.Perm renaming eq_of_pairwise->pU
open PySem.Heap.Ns1 renaming of_empty->pX
open PySem.AutoSeq1 renaming list_extend_list_list_0->Pb
noncomputable abbrev om:=List
noncomputable abbrev oq:=Option
nonrec def A4:=@if_neg
nonrec def A6:=@if_pos
nonrec def A9:=@decide_eq_true
nonrec def Aa:=@absurd
nonrec def Ab:=@congrArg
nonrec def ub:=@decide_eq_false
nonrec def um:=@of_decide_eq_true
nonrec def uP:=@or_false
nonrec def uR:=@decide_eq_true_eq
nonrec def uZ:=@decide_eq_decide
nonrec def UT:=@beq_eq_false_iff_ne
nonrec def V7:=@not_false_eq_true
nonrec def Vc:=@beq_iff_eq
nonrec def Vf:=@not_or
nonrec def Vg:=@if_true
namespace L2
open PySem PySem.Spec PyProof.Rows
noncomputable abbrev Key:=Sum Int Str
nonrec def Kv:Key->o7->Bool
 | .inl k,v=>R7 k v
 | .inr x,v=>RG x v
nonrec def Aeb (w:oh):Key->Int
 | .inl k=>hashInt k
 | .inr x=>hashStr w x
def Qx:∀{k:Key}{v:o7},Kv k v=v_->(∃i t,k=GH i/\v=Gn i t)∨(∃x t,k=Vj x/\v=VI x t)
 | .inl i,v,h=>by
  erw[Value.isInt_shape (k:=i) (v:=v) h,t,e];exact .inl ⟨i,t,1,e⟩
 | .inr x,v,h=>by
  erw[Value.isStrOf_shape (x:=x) (v:=v) h,t,e];exact .inr ⟨x,t,1,e⟩
def Eu (i:Int)(t:Tok):Kv (.inl i) (.int i t)=true:=by simp[Kv,R7]
def Et (x:Str)(t:Tok):Kv (.inr x) (.str x t)=true:=by simp[Kv,RG]
def Abb (a b:Int):decide ((GH a:Key)=GH b)=(a==b):=by
 by_cases e:a=b
 ·subst e;simp
 ·have h:¬(GH a:Key)=GH b:=λq=>e (Sum.inl.inj q);rw[ub h];exact(beq_eq_false_iff_ne.mpr e).symm
def Aa8 (a b:Str):decide ((Vj a:Key)=Vj b)=decide (a=b):=by
 by_cases e:a=b
 ·subst e;simp
 ·have h:¬(Vj a:Key)=Vj b:=λq=>e (UB q);rw[ub h,ub e]
def Aba (a:Int)(b:Str):decide ((GH a:Key)=Vj b)=false:=ub (λq=>nomatch q)
def Aa9 (a:Str)(b:Int):decide ((Vj a:Key)=GH b)=false:=ub (λq=>nomatch q)
nonrec def Qu (prog:og)(w:oh):PySem.KeyKind prog w Key where
 is:=Kv
 hash:=Aeb w
 inj:=λv a b ha hb=>by
  rcases Qx ha with⟨i,t,rfl,rfl⟩|⟨x,t,rfl,rfl⟩
  ·rcases Qx hb with⟨j,u,rfl,e⟩|⟨y,u,rfl,e⟩
   ·injection e with e1 _;rw[e1]
   ·exact nomatch e
  ·rcases Qx hb with⟨j,u,rfl,e⟩|⟨y,u,rfl,e⟩
   ·exact nomatch e
   ·injection e with e1 _;rw[e1]
 byValue:=λk v h=>by
  rcases Qx h with⟨i,t,rfl,rfl⟩|⟨x,t,rfl,rfl⟩<;>rfl
 pyHash:=λhv h=>by
  rcases Qx hv with⟨i,t,rfl,rfl⟩|⟨x,t,rfl,rfl⟩
  ·exact wpAny_pyHash_int h
  ·exact wpAny_pyHash_str h
 eqBool:=λhu hv h=>by
  rcases Qx hu with⟨i,t,rfl,rfl⟩|⟨x,t,rfl,rfl⟩
  ·rcases Qx hv with⟨j,u,rfl,rfl⟩|⟨y,u,rfl,rfl⟩
   ·rw[Abb] at h;exact wpAny_eqBool_int h
   ·rw[Aba] at h;exact UW i t y u _ _ _ _ h
  ·rcases Qx hv with⟨j,u,rfl,rfl⟩|⟨y,u,rfl,rfl⟩
   ·rw[Aa9] at h;exact UX x t j u _ _ _ _ h
   ·rw[Aa8] at h;exact wpAny_eqBool_str h
 «strs»:=λk x t v h=>by
  rcases Qx h with⟨i,u,rfl,e⟩|⟨y,u,rfl,e⟩
  ·exact nomatch e
  ·injection e with e1 _
   subst e1
   cases v<;>rfl
def Am (prog:og)(w:oh)(i:Int)(t:Tok):(Qu prog w).is (.inl i) (.int i t)=true:=Eu i t
def Wg (prog:og)(w:oh)(x:Str)(t:Tok):(Qu prog w).is (.inr x) (.str x t)=true:=Et x t
inductive V where
 |non|bl (b:Bool)|int (i:Int)|str (x:Str)|byt (b:Array UInt8)|flt (b:UInt64)|ref (a:Addr)|ty (n:String)
 deriving DecidableEq
nonrec def ik:V->o7->Prop
 | .non,u=>u=gS
 | .bl b,u=>u=tj b
 | .int i,u=>∃t,u=Gn i t
 | .str x,u=>∃t,u=VI x t
 | .byt b,u=>∃t,u=Rg b t
 | .flt b,u=>∃t,u=Tq b t
 | .ref a,u=>u=Vo a
 | .ty n,u=>u=Gu n
noncomputable abbrev iq:om V->om o7->Prop:=Paired ik
variable {xs:om V}{us:om o7}
def iq.length (r:iq xs us):↑xs=↑us:=Paired.length r
def iq.get:∀{xs:om V}{us:om o7}{i:Nat}{x:V},iq xs us->xs[i]? =u_ x->∃u,us[i]? =u_ u/\ik x u
 |_,_,_,_,.nil,e=>by simp at e
 |_,_,0,_,.cons r _,e=>by simp at e;subst e;exact[0:r]
 |_,_,i+1,x,.cons _ t,e=>by
  obtain⟨u,h1,h2⟩:=iq.get (i:=i) (x:=x) t (by simpa using e)
  exact⟨u,by simpa using h1,h2⟩
def iq.set {x:V}{u:o7}(r:ik x u):∀{xs:om V}{us:om o7} (i:Nat),iq xs us->iq (xs.set i x) (us.set i u)
 |_,_,_,.nil=> .nil
 |_,_,0,.cons _ t=> .cons r t
 |_,_,i+1,.cons q t=> .cons q (iq.set r i t)
def iq.append:∀{xs ys:om V}{us ws:om o7},iq xs us->iq ys ws->iq (xs++ys) (us++ws)
 |_,_,_,_,.nil,s=>s
 |_,_,_,_,.cons r t,s=> .cons r (iq.append t s)
def iq.take:∀{xs:om V}{us:om o7} (n:Nat),iq xs us->iq (xs.take n) (us.take n)
 |_,_,0,_=> .nil
 |_,_,_+1,.nil=> .nil
 |_,_,n+1,.cons r t=> .cons r (iq.take n t)
def iq.drop:∀{xs:om V}{us:om o7} (n:Nat),iq xs us->iq (xs.drop n) (us.drop n)
 |_,_,0,r=>r
 |_,_,_+1,.nil=> .nil
 |_,_,n+1,.cons _ t=>iq.drop n t
nonrec def nj:oq V->oq o7->Prop
 |some v,u_ u=>ik v u
 |none,U_=>True
 |_,_=>False
nonrec def KV {κ:Type}:om (κ×V)->om (κ×o7)->Prop:=Paired λ(p:κ×V) (q:κ×o7)=>p.1=q.1/\ik p.2 q.2
nonrec def kV:Key->V
 | .inl i=> .int i
 | .inr x=> .str x
inductive HO where
 |lst (xs:List V)
 |tup (xs:List V)
 |dK (kvs:List (Key×V))|dT (kvs:List (List Key×V))
 |set (S:Int->Bool)(n:Nat)
 |ins (C dx:Addr)(fs:List (Str×V))
 |own (x:Addr)
 |xd (fs:List (Str×V))
 |met (f x:Addr)
 |rng (lo hi:Int)
 |frz (o:Obj)(u:HO)
 |tbl (ps:Array Value)
 |ext (φ:Heap->Prop)
noncomputable abbrev Hp:=o6->oq HO
nonrec def upd (H:Hp)(a:o6)(o:HO):Hp:=λb=>if b=a then u_ o else H b
variable {H:Hp}{a:o6}
def qk {o:HO}:upd H a o a=u_ o:=by unfold upd;rw[A6 rfl]
variable {b:o6}
def qm {o:HO}(h:b≠a):upd H a o b=H b:=by unfold upd;rw[A4 h]
def AcK {o u:HO}(h:H a=u_ o)(h':H b=u_ u)(d:o≠u):a≠b:=by
 intro e;subst e;rw[h] at h';exact d (uF h')
def qo {o:HO}(h:H a=u_ o)(h':H b=U_):a≠b:=by
 intro e;subst e;rw[h] at h';cases h'
section
variable (P:og)(w:oh)
nonrec def yy (H:Hp)(h:o9)(a:o6):HO->Prop
 | .lst xs=>↑xs<=Vl/\∃(its:om o7) (n:Nat),iq xs its/\h.get? a=u_ {cls:= .type "list",data:= .seq its.toArray n}
 | .tup xs=>↑xs<=Vl/\∃its:om o7,iq xs its/\GO h a its.toArray
 | .dK kvs=>↑kvs<=Vl/\(a==VF)=Vh/\∃vs,KV kvs vs/\h.DictOf (Qu P w) a vs
 | .dT kvs=>↑kvs<=Vl/\(a==VF)=Vh/\∃xs:om (om Key×o6×o7),
   Paired (λ(p:om Key×V) (q:om Key×o6×o7)=>p.1=q.1/\H q.2.1=u_ (.tup (p.1.map kV))/\ik p.2 q.2.2) kvs xs/\
   ∃o es ep,h.get? a=u_ o/\o.ExactDict/\o.data= .dict es ep/\es.toList=xs.map (entryOfKey (GC (Qu P w)))/\(xs.map (·.1)).Nodup
 | .set S n=>h.SetOf (intKind P w) a S n
 | .ins C dx fs=>H dx=u_ (.own a)/\↑fs<=1000/\dx≠a/\h.get? a=u_ (PySem.W.instObj C dx)/\
   ∃mA,h.Ns1 dx mA/\(∀f,nj (fs.lookup f) (mA f))/\PySem.Within mA (fs.map (·.1))
 | .own _=>∃o,h.get? a=u_ o
 | .xd fs=>∃mA,h.Ns1 a mA/\∀f,nj (fs.lookup f) (mA f)
 | .rng lo hi=>∃t u v,h.get? a=u_ {cls:= .type "range",data:= .fields #[.int lo t,.int hi u,.int 1 v]}
 | .frz o u=>h.get? a=u_ o/\yy H h a u
 | .tbl ps=>h.get? a=u_ {cls:= .none,data:= .fields ps}
 | .met f x=>h.get? a=u_ (PySem.W.methodObj (.ref f) (.ref x))
 | .ext φ=>φ h/\(∃o,h.get? a=u_ o)/\∀h1 h2:o9,φ h1->(∀o,h1.get? a=u_ o->h2.get? a=u_ o)->φ h2
nonrec def HOk (H:Hp)(h:o9):Prop:=∀a o,H a=u_ o->yy P w H h a o
end
section
variable {P:og}{w:oh}{H H':Hp}{h h':o9}{a:o6}{o:HO}
def yy.lt (x:yy P w H h a o):a<h.objs.size:=by
 cases o with
 |lst xs=>erw[x,_,_,_,_,e];exact uB e
 |tup xs=>erw[x,_,_,_,p];exact p.lt
 |dK kvs=>erw[x,_,_,_,_,o,_,_,e,_];exact uB e
 |dT kvs=>erw[x,_,_,_,_,o,_,_,e,_];exact uB e
 |set S n=>erw[x,o,_,_,_,e,_];exact uB e
 |ins C dx fs=>erw[x,_,_,_,e,_];exact uB e
 |own y=>erw[x,_,e];exact uB e
 |xd fs=>erw[x,_,[_,_,_,e,_],_];exact uB e
 |rng lo hi=>erw[x,_,_,_,e];exact uB e
 |frz ob u=>erw[x,e,_];exact uB e
 |tbl ps=>exact uB (show h.get? a=u_ _ from x)
 |met f y=>exact uB (show h.get? a=u_ _ from x)
 |ext φ=>erw[x,_,[_,e],_];exact uB e
def Paired.mapP {α β:Type}{F G:α->β->Prop}:∀{l₁:om α}{l₂:om β},Paired F l₁ l₂->(∀a b,F a b->G a b)->Paired G l₁ l₂
 |_,_,.nil,_=> .nil
 |_,_,.cons r t,f=> .cons (f _ _ r) (Paired.mapP t f)
def yy.stay (x:yy P w H h a o)(k:∀b u,(b=a∨H b=u_ (.own a))->h.get? b=u_ u->h'.get? b=u_ u)
  (O:∀b,H b=u_ (.own a)->H' b=u_ (.own a)) (U:∀b xs,H b=u_ (.tup xs)->H' b=u_ (.tup xs)):yy P w H' h' a o:=by
 induction o with
 |lst xs=>erw[x,z,its,n,r,e];exact⟨z,its,n,r,k _ _ (.inl rfl) e⟩
 |tup xs=>erw[x,z,its,r,ob,e,c];exact⟨z,its,r,ob,k _ _ (.inl rfl) e,c⟩
 |dK kvs=>erw[x,z,y,vs,r,ob,es,ep,e,c];exact⟨z,y,vs,r,ob,es,ep,k _ _ (.inl rfl) e,c⟩
 |dT kvs=>
  erw[x,z,y,xs,r,ob,es,ep,e,c];exact⟨z,y,xs,Paired.mapP r λp q z=>[z.1:U _ _ z.2.1:z.2.2],ob,es,ep,k _ _ (.inl rfl) e,c⟩
 |set S n=>erw[x,ob,es,ep,t,e,c];exact⟨ob,es,ep,t,k _ _ (.inl rfl) e,c⟩
 |ins C dx fs=>
  erw[x,d,z,ne,e,mA,[od,es,ep,Z,c],r];exact⟨O _ d,z,ne,k _ _ (.inl rfl) e,mA,⟨od,es,ep,k _ _ (.inr d) Z,c⟩,r⟩
 |own y=>erw[x,ob,e];exact[ob:k _ _ (.inl rfl) e]
 |xd fs=>erw[x,mA,[od,es,ep,e,c],r];exact[mA:⟨od,es,ep,k _ _ (.inl rfl) e,c⟩:r]
 |rng lo hi=>erw[x,t,u,v,e];exact⟨t,u,v,k _ _ (.inl rfl) e⟩
 |frz ob u ih=>erw[x,e,q];exact[k _ _ (.inl rfl) e:ih q]
 |tbl ps=>
  have e:h.get? a=u_ {cls:= .none,data:= .fields ps}:=x;show h'.get? a=u_ {cls:= .none,data:= .fields ps};exact k a _ (.inl rfl) e
 |met f y=>
  have e:h.get? a=u_ (PySem.W.methodObj (.ref f) (.ref y)):=x;show h'.get? a=u_ (PySem.W.methodObj (.ref f) (.ref y));exact k a _ (.inl rfl) e
 |ext φ=>erw[x,p,[o,e],st];exact[st _ _ p λo q=>k _ _ (.inl rfl) q:[o:k _ _ (.inl rfl) e]:st]
def HOk.lt (x:HOk P w H h)(e:H a=u_ o):a<h.objs.size:=(x a o e).lt
def HOk.fresh (x:HOk P w H h)(e:h.objs.size<=a):H a=none:=by
 cases q:H a with
 |none=>rfl
 |some u=>exact Aa (Vw (x.lt q) e) (vN _)
def HOk.kept (x:HOk P w H h)(k:∀b u,h.get? b=u_ u->h'.get? b=u_ u):HOk P w H h':=λa o e=>
 (x a o e).stay (λb u _ q=>k b u q) (λ_ q=>q) λ_ _ q=>q
def HOk.laid (x:HOk P w H h)(k:∀b u,h.get? b=u_ u->h'.get? b=u_ u)(U:h.objs.size<=a)(new:yy P w (upd H a o) h' a o):HOk P w (upd H a o) h':=λb u e=>by
 have hn:=x.fresh U;by_cases O:b=a
 ·subst O;rw[qk] at e;cases e;exact new
 ·rw[qm O] at e;exact(x b u e).stay (λc v _ q=>k c v q) (λc q=>by rwa[qm (qo q hn)]) λc xs q=>by rw[qm (qo q hn)];exact q
end
nonrec def Rd (H:Hp)(a:o6)(u:HO):Prop:=H a=u_ u∨∃o,H a=u_ (.frz o u)
def Rd.of {u:HO}(h:H a=u_ u):Rd H a u:= .inl h
variable {w:oh}{h:o9}
def Rd.ok {P:og}{u:HO}(r:Rd H a u)(x:HOk P w H h):yy P w H h a u:=by
 rcases r with r|⟨o,r⟩
 ·exact x a u r
 ·erw[x a _ r,_,q];exact q
nonrec def Mut:oq HO->Prop
 |some (.lst _)=>True
 |some (.dK _)=>True
 |some (.dT _)=>True
 |some (.set _ _)=>True
 |some (.ins _ _ _)=>True
 |some (.ext _)=>True
 |_=>False
section
variable {P:og}{w:oh}{H:Hp}{h h':o9}{x e:o6}{o':HO}
def HOk.write (ok:HOk P w H h)(mu:Mut (H x))(he:e=x∨H e=u_ (.own x))(k:∀b u,b≠e->h.get? b=u_ u->h'.get? b=u_ u)(aa:∃u,h'.get? e=u_ u)
  (new:yy P w (upd H x o') h' x o'):HOk P w (upd H x o') h':=λb u q=>by
 have U:∀c y,H c=u_ (.own y)->c≠x:=λc y r z=>by subst z;rwa[r] at mu
 have Z:∀c xs,H c=u_ (.tup xs)->c≠x:=λc xs r z=>by subst z;rwa[r] at mu
 by_cases hb:b=x
 ·subst hb;rw[qk] at q;cases q;exact new
 ·rw[qm hb] at q;by_cases O:b=e
  ·have q':H b=u_ (.own x):=by
    rcases he with z|z
    ·exact Aa (O.trans z) hb
    ·rwa[O]
   rw[q] at q';cases q';erw[aa,v,hv];exact⟨v,by rwa[O]⟩
  ·refine(ok b u q).stay (λc v hc r=>k c v ?_ r) (λc r=>by rwa[qm (U c b r)]) λc xs r=>by rwa[qm (Z c xs r)]
   rcases hc with rfl|hc
   ·exact O
   ·rintro rfl;rcases he with z|z
    ·exact U c b hc z
    ·rw[hc] at z;cases z;exact hb rfl
end
structure Un (fs ex:om o6)(H H':Hp)(h h':o9):Prop where
 keep:∀b o,h.get? b=u_ o->H b=U_->b∉fs->b∉ex->h'.get? b=u_ o
 slot:∀b o,h.get? b=u_ o->H b=U_->b∈fs->b∉ex->∃sl,h'.get? b=u_ {o with slots:=sl}
 free:∀b o,h.get? b=u_ o->H b=U_->b∉ex->H' b=U_
 there:∀b o,h.get? b=u_ o->b∉ex->∃o',h'.get? b=u_ o'
 tups:∀b xs,H b=u_ (.tup xs)->H' b=u_ (.tup xs)
 frzs:∀b o u,H b=u_ (.frz o u)->H' b=u_ (.frz o u)
 tbls:∀b ps,H b=u_ (.tbl ps)->∃more,H' b=u_ (.tbl (ps++more))
section
variable {fs fs' ex ex':om o6}{H H1 H2:Hp}{h h1 h2 h':o9}{a x e:o6}{o:HO}
def Un.any (u:Un fs ex H H1 h h1){ob:Obj}(q:h.get? b=u_ ob)(n:H b=U_)(O:b∉ex):∃sl,h1.get? b=u_ {ob with slots:=sl}:=by
 by_cases U:b∈fs
 ·exact u.slot b ob q n U O
 ·exact[ob.slots:u.keep b ob q n U O]
def Un.trans (a:Un fs ex H H1 h h1)(b:Un fs ex H1 H2 h1 h2):Un fs ex H H2 h h2 where
 keep:=λc ob q n Z O=>b.keep c ob (a.keep c ob q n Z O) (a.free c ob q n O) Z O
 slot:=λc ob q n Z O=>by
  erw[a.slot c ob q n Z O,sl,U];erw[b.slot c _ U (a.free c ob q n O) Z O,aa,e2];exact[aa:e2]
 free:=λc ob q n O=>by
  erw[a.there c ob q O,o',U];exact b.free c o' U (a.free c ob q n O) O
 there:=λc ob q O=>by
  erw[a.there c ob q O,o',U];exact b.there c o' U O
 tups:=λc xs q=>b.tups c xs (a.tups c xs q)
 frzs:=λc ob xs q=>b.frzs c ob xs (a.frzs c ob xs q)
 tbls:=λc ps q=>by
  erw[a.tbls c ps q,m1,U];erw[b.tbls c _ U,m2,e2];exact⟨m1++m2,by rw[e2,tT]⟩
def Un.kept (k:∀b u,h.get? b=u_ u->h'.get? b=u_ u):Un fs ex H H h h':=
 ⟨λb ob q _ _ _=>k b ob q,λb ob q _ _ _=>[ob.slots:k b ob q],λ_ _ _ n _=>n,λb ob q _=>[ob:k b ob q],λ_ _ q=>q,λ_ _ _ q=>q,λ_ ps q=>⟨#[],by rw[q];simp⟩⟩
def Un.refl:Un fs ex H H h h:=Un.kept λ_ _ q=>q
def Un.laid (k:∀b u,h.get? b=u_ u->h'.get? b=u_ u)(O:h.objs.size<=a)(hn:H a=U_):Un fs ex H (upd H a o) h h' where
 keep:=λb u q _ _ _=>k b u q
 slot:=λb u q _ _ _=>[u.slots:k b u q]
 free:=λb u q n _=>by rwa[qm (uO (Vw (uB q) O))]
 there:=λb u q _=>[u:k b u q]
 tups:=λb xs q=>by rwa[qm (qo q hn)]
 frzs:=λb u xs q=>by rwa[qm (qo q hn)]
 tbls:=λb ps q=>⟨#[],by rw[qm (qo q hn),q];simp⟩
def Un.write (mu:Mut (H x))(he:e=x∨H e=u_ (.own x))(k:∀b u,b≠e->h.get? b=u_ u->h'.get? b=u_ u)(U:∃u,h'.get? e=u_ u):Un fs ex H (upd H x o) h h':=by
 have Z:∀b,H b=U_->b≠x:=λb n z=>by subst z;rwa[n] at mu
 have hb:∀b,H b=U_->b≠e:=λb n z=>by
  subst z;rcases he with r|r
  ·exact Z b n r
  ·rw[n] at r;cases r
 have hm:∀b u,H b=u_ u->¬Mut (u_ u)->b≠x:=λb u q nm z=>by subst z;rw[q] at mu;exact nm mu
 refine⟨λb u q n _ _=>k b u (hb b n) q,λb u q n _ _=>[u.slots:k b u (hb b n) q],λb u q n _=>by rwa[qm (Z b n)],λb u q _=>?_,
  λb xs q=>by rwa[qm (hm b _ q λz=>z)],λb u xs q=>by rwa[qm (hm b _ q λz=>z)],λb ps q=>⟨#[],by rw[qm (hm b _ q λz=>z),q];simp⟩⟩
 by_cases O:b=e
 ·subst O;exact U
 ·exact[u:k b u O q]
end
nonrec def trk (h:o9)(H:Hp):om o6:=(Vn h.objs.size).filter λa=>(H a).isSome
nonrec def LZ (h:o9)(H:Hp):o9:=PySem.W.hideAll h (trk h H)
def EI (h:o9)(H:Hp):(LZ h H).objs.size=h.objs.size:=PySem.W.hideAll_size _ _
variable {o:Obj}
def LY (e:h.get? b=u_ o)(n:H b=U_):(LZ h H).get? b=u_ o:=
 PySem.W.hideAll_get _ e λhm=>by
  have q:(H b).isSome=true:=(Ah.mp hm).2;rw[n] at q;simp at q
def Py (e:(LZ h H).get? b=u_ o):h.get? b=u_ o/\H b=none:=by
 have O:h.get? b=u_ o:=PySem.W.of_hideAll (trk h H) e;exists O;cases q:H b with
 |none=>rfl
 |some x=>
  have hm:b∈trk h H:=Ah.mpr ⟨List.mem_range.mpr (uB O),by simp[q]⟩
  have z:(LZ h H).get? b=none:=PySem.W.hideAll_none (trk h H) hm;rw[z] at e;cases e
structure Mod (K:o0)(mg:Str->oq o7)(base:o9):Prop where
 kin:K.In base
 glob:base.Ns VG mg
 blt:∃mb,base.Ns Ta mb/\∀x:Str,x≠"__name__"->mb x=Gf x
 nolimit:base.NoLimit
structure Cx where
 prog:og
 w:oh
 K:o0
 mg:Str->oq o7
 base:o9
 A:oj
 N:om Str
 s₀:o8
 H₀:Hp
 env:Env
 outer:om Env
 stack:om Env
 ex:om o6
 fn:Str->Bool
 calm:Bool
 pn:om (o6×Obj)
 xe:o7->o8->Prop
nonrec def frs (l:om Env):om o6:=l.filterMap (·.frame)
noncomputable abbrev Cx.fs (X:Cx):om o6:=frs X.outer
nonrec def Vis (sc:VD)(x:Str):Prop:=sc.names.lookup x=u_ .local∨sc.names.lookup x=u_ .cell∨sc.names.lookup x=u_ .free
nonrec def Loc (sc:VD)(x:Str):Prop:=sc.names.lookup x=u_ .local∨sc.names.lookup x=u_ .cell
nonrec def Aej (env:Env)(h:o9)(m:Str->oq o7)(x:Str)(u:o7):Prop:=
 (env.kindOf x=u_ .local/\m x=u_ u)∨((env.kindOf x=u_ .cell∨env.kindOf x=u_ .free)/\∃c,env.cells.lookup x=u_ c/\h.IsCell c (u_ u))
structure Cx.Ok (X:Cx):Prop where
 mod:Mod X.K X.mg X.base
 kind:X.env.scope.kind= .function
 glob:X.env.globals=VG
 blt:X.env.builtins=Ta
 above:X.s₀.heap.objs.size<=X.env.locals
 inj:∀x y c,X.env.cells.lookup x=u_ c->X.env.cells.lookup y=u_ c->x=y
 has:∀x,(X.env.kindOf x=u_ .cell∨X.env.kindOf x=u_ .free)->∃c,X.env.cells.lookup x=u_ c
 cab:∀x c,X.fn x=v_->X.env.cells.lookup x=u_ c->X.s₀.heap.objs.size<=c
 hd:X.calm=v_->X.A.handled=U_
 frames:X.A.frames=u_ X.stack
 stk:X.stack=X.outer∨(X.stack=X.env::X.outer/\X.env.frame=u_ X.env.locals)
 exf:∀b∈X.ex,b≠X.env.locals/\∀x c,X.env.cells.lookup x=u_ c->c≠b
 bs:∀b o,X.base.get? b=u_ o->X.s₀.heap.get? b=u_ o/\X.H₀ b=U_
 bsz:X.base.objs.size<=X.s₀.heap.objs.size
 noex:∀b o,X.base.get? b=u_ o->b∉X.ex
 exfs:∀b∈X.ex,b∉X.fs
 funs:X.s₀.heap.FunFrames X.base X.outer
 frf:∀b∈X.fs,X.H₀ b=U_
structure Inv (X:Cx)(ot:om (o6×Obj))(σ:om (oq V))(H:Hp)(s:o8):Prop where
 ok:X.Ok
 os:s.os=X.s₀.os
 bare:V_ s.gens
 base:Un X.fs X.ex X.H₀ H X.s₀.heap s.heap
 loc:∃m,s.heap.Ns X.env.locals m/\∀(i:Nat) (x:Str) (v:V),X.N[i]? =u_ x->σ[i]? =u_ (u_ v)->Vis X.env.scope x->∃u,ik v u/\Aej X.env s.heap m x u
 cell:∀x c,X.env.cells.lookup x=u_ c->∃v,s.heap.IsCell c v
 free:H X.env.locals=U_
 freeC:∀x c,X.env.cells.lookup x=u_ c->H c=U_
 pin:∀p∈X.pn++ot,s.heap.get? p.1=u_ p.2/\H p.1=U_/\p.1≠X.env.locals/\p.1∉X.fs/\∀v,p.2.data≠ .cell v
 hok:HOk X.prog X.w H s.heap
 len:↑σ=↑X.N
 tk:0<s.toks
section
variable {X:Cx}{ot:om (o6×Obj)}{σ:om (oq V)}{H H':Hp}{s:o8}{h':o9}
def Cx.Ok.nofr (ok:X.Ok)(e:X.base.get? b=u_ o):b∉X.fs:=λO=>by
 have:=(ok.funs.mem O).1;rw[e] at this;cases this
def Inv.bs (I:#[I]):∀b o,X.base.get? b=u_ o->s.heap.get? b=u_ o/\H b=none:=λb o e=>
 [I.base.keep b o (I.ok.bs b o e).1 (I.ok.bs b o e).2 (I.ok.nofr e) (I.ok.noex b o e):I.base.free b o (I.ok.bs b o e).1 (I.ok.bs b o e).2 (I.ok.noex b o e)]
def Inv.bk (I:#[I]):∀b o,X.base.get? b=u_ o->s.heap.get? b=u_ o:=λb o e=>(I.bs b o e).1
def Inv.mod (I:#[I]):Mod X.K X.mg X.base:=I.ok.mod
def Inv.kIn (I:#[I]):X.K.In s.heap:=I.ok.mod.kin.keeps I.bk
def Inv.lt (I:#[I]):X.env.locals<#[0,s]:=let⟨_,hn,_⟩:=I.loc;hn.lt
def Inv.sz (I:#[I]):X.s₀.heap.objs.size<=#[0,s]:=uL I.ok.above (V9 I.lt)
def Inv.nofs (I:#[I])(h:#[0,s]<=a):a∉X.fs:=λO=>by
 erw[I.ok.funs.mem O,_,o,U,_];exact Aa (Vw (uB U) (uL I.sz h)) (vN _)
def Inv.cne (I:#[I]):∀x c,X.env.cells.lookup x=u_ c->c≠X.env.locals:=λx c e z=>by
 erw[I.cell x c e,v,o,Z,hd];erw[I.loc,m,[o',es,ep,O,U,_],_];rw[z,O] at Z;cases Z;rw[U] at hd;cases hd
def Inv.funs (I:#[I]):s.heap.FunFrames X.base X.outer:=by
 have all:∀(l:om Env),(∀b∈frs l,b∈X.fs)->X.s₀.heap.FunFrames X.base l->s.heap.FunFrames X.base l:=by
  intro l
  induction l with
  |nil=>intro _ _;trivial
  |cons env r ih=>
   intro hs hl;erw[hl,hk,[L,o,O,hn,ho,hd],hr];have U:L∈X.fs:=hs L (by unfold frs;rw[U0,O];exact ue)
   obtain⟨sl,e⟩:=I.base.slot L o ho (I.ok.frf L U) U λz=>I.ok.exfs L z U;exact⟨hk,⟨L,_,O,hn,e,hd⟩,ih (λb Z=>hs b (by unfold frs;rw[U0,O];exact uc _ Z)) hr⟩
 exact all X.outer (λ_ Z=>Z) I.ok.funs
def Inv.stack (I:#[I]):s.heap.FunFrames X.base X.stack:=by
 rcases I.ok.stk with e|⟨e,O⟩
 ·rw[e];exact I.funs
 ·rw[e];erw[I.loc,m,hn,_];refine .cons (by rw[I.ok.kind];decide) O hn ?_ I.funs
  exact Heap.get?_none_of_le (uL I.ok.bsz I.ok.above)
def Inv.stkSub (I:#[I]):∀b∈frs X.stack,b∈X.env.locals::X.fs:=λb O=>by
 rcases I.ok.stk with e|⟨e,U⟩
 ·rw[e] at O;exact uc _ O
 ·rw[e] at O;unfold frs at O;rwa[U0,U] at O
def Inv.stkFree (I:#[I]):∀b∈frs X.stack,H b=none:=λb O=>by
 rcases Ac.mp (I.stkSub b O) with e|O
 ·rw[e];exact I.free
 ·erw[I.ok.funs.mem O,_,o,U,_];exact I.base.free b o U (I.ok.frf b O) λz=>I.ok.exfs b z O
def Inv.step {g':Array TR}{t':Nat}{d':Drawn}{ch:om o6}(I:#[I])
  (U:∀b∈ch,(b∈X.ex∨X.s₀.heap.objs.size<=b)/\b≠X.env.locals/\(∀x c,X.env.cells.lookup x=u_ c->c≠b)/\∀p∈X.pn++ot,p.1≠b)
  (keep:∀b o,b≠X.env.locals->b∉X.fs->b∉ch->s.heap.get? b=u_ o->H b=U_->h'.get? b=u_ o)
  (slot:∀b o,b≠X.env.locals->b∈X.fs->b∉ch->s.heap.get? b=u_ o->H b=U_->∃sl,h'.get? b=u_ {o with slots:=sl}) (free:∀b o,b∉ch->s.heap.get? b=u_ o->H b=U_->H' b=U_)
  (there:∀b o,b∉ch->s.heap.get? b=u_ o->∃o',h'.get? b=u_ o')
  (tups:∀b xs,H b=u_ (.tup xs)->H' b=u_ (.tup xs)) (frzs:∀b o u,H b=u_ (.frz o u)->H' b=u_ (.frz o u)) (tbls:∀b ps,H b=u_ (.tbl ps)->∃more,H' b=u_ (.tbl (ps++more)))
  (ns:∀m,s.heap.Ns X.env.locals m->h'.Ns X.env.locals m) (hok:HOk X.prog X.w H' h') (hg:V_ g') (ht:0<t':=by ac_rfl):
  Inv X ot σ H' {s with heap:=h',gens:=g',drawn:=d',toks:=t'}:=by
 have ad:∀b o,X.s₀.heap.get? b=u_ o->b≠X.env.locals:=λb o e=>uO (Vw (uB e) I.ok.above);have ac:∀b o,X.s₀.heap.get? b=u_ o->b∉X.ex->b∉ch:=λb o e O hb=>by
  rcases(U b hb).1 with z|z
  ·exact O z
  ·exact Aa (Vw (uB e) z) (vN _)
 have Z:∀x c,X.env.cells.lookup x=u_ c->∀v,s.heap.IsCell c v->h'.IsCell c v:=λx c e v ⟨o,ho,hd⟩=>by
  have aa:c∉ch:=λz=>(U c z).2.2.1 x c e rfl;by_cases hc:c∈X.fs
  ·erw[slot c o (I.cne x c e) hc aa ho (I.freeC x c e),sl,q];exact[_:q:hd]
  ·exact[o:keep c o (I.cne x c e) hc aa ho (I.freeC x c e):hd]
 exists I.ok,I.os,hg,⟨λb o e n hb O=>?_,λb o e n hb O=>?_,λb o e n O=>?_,λb o e O=>?_,λb xs e=>tups b xs (I.base.tups b xs e),λb o xs e=>frzs b o xs (I.base.frzs b o xs e),λb ps e=>?_⟩,?_,λx c e=>?_,?_,λx c e=>?_,λp hp=>?_,hok,I.len,ht
 ·exact keep b o (ad b o e) hb (ac b o e O) (I.base.keep b o e n hb O) (I.base.free b o e n O)
 ·erw[I.base.slot b o e n hb O,sl,e1];erw[slot b _ (ad b o e) hb (ac b o e O) e1 (I.base.free b o e n O),ae,e2];exact[ae:e2]
 ·erw[I.base.there b o e O,o',e1];exact free b o' (ac b o e O) e1 (I.base.free b o e n O)
 ·erw[I.base.there b o e O,o',e1];exact there b o' (ac b o e O) e1
 ·erw[I.base.tbls b ps e,m1,e1];erw[tbls b _ e1,m2,e2];exact⟨m1++m2,by rw[e2,tT]⟩
 ·erw[I.loc,m,hn,hl];exists m,ns m hn,λi x v e1 e2 e3=>?_;erw[hl i x v e1 e2 e3,u,r,l];exists u,r;rcases l with l|⟨k,c,e,z⟩
  ·exact .inl l
  ·exact .inr ⟨k,c,e,Z x c e _ z⟩
 ·erw[I.cell x c e,v,z];exact[v:Z x c e v z]
 ·erw[I.loc,m,[o,_,_,ho,_],_];exact free _ o (λz=>(U _ z).2.1 rfl) ho I.free
 ·erw[I.cell x c e,v,o,ho,hd];exact free c o (λz=>(U c z).2.2.1 x c e rfl) ho (I.freeC x c e)
 ·erw[I.pin p hp,e,n,ne,nf,d];have aa:p.1∉ch:=λz=>(U p.1 z).2.2.2 p hp rfl;exact⟨keep p.1 p.2 ne nf aa e n,free p.1 p.2 aa e n,ne,nf,d⟩
variable {t':Nat}
def Inv.un (I:#[I])(u:Un X.fs [] H H' s.heap h')(hok:HOk X.prog X.w H' h')(ht:0<t':=by ac_rfl):Inv X ot σ H' {s with heap:=h',toks:=t'}:=by
 erw[id I.loc,m,[o,es,ep,ho,r],_];obtain⟨sl,hL⟩:=u.any ho I.free (by simp)
 exact I.step (g':=s.gens) (d':=s.drawn) (ch:= []) (λ_ z=>nomatch z) (λb o _ U _ e n=>u.keep b o e n U (by simp)) (λb o _ U _ e n=>u.slot b o e n U (by simp)) (λb o _ e n=>u.free b o e n (by simp)) (λb o _ e=>u.there b o e (by simp)) u.tups u.frzs u.tbls (λm' hm=>by
  erw[hm,o',Z,aa,O,r'];rw[ho] at O;cases O;exact⟨_,Z,aa,hL,r'⟩) hok I.bare
def Inv.call {g':Array TR}{t':Nat}{d':Drawn}{ch:om o6}(I:#[I])(u:Un (frs X.stack) ch H H' s.heap h')(hok:HOk X.prog X.w H' h')(hg:V_ g')
  (U:∀b∈ch,(b∈X.ex∨X.s₀.heap.objs.size<=b)/\b≠X.env.locals/\(∀x c,X.env.cells.lookup x=u_ c->c≠b)/\∀p∈X.pn++ot,p.1≠b) (ht:0<t':=by ac_rfl):
  Inv X ot σ H' {s with heap:=h',gens:=g',drawn:=d',toks:=t'}:=by
 erw[id I.loc,m,[o,es,ep,ho,r],_];obtain⟨sl,hL⟩:=u.any ho I.free λz=>(U _ z).2.1 rfl;exact I.step (ch:=ch) U (λb o hL hb O e n=>u.keep b o e n (λz=>(Ac.mp (I.stkSub b z)).elim hL hb) O) (λb o _ _ O e n=>u.any e n O) (λb o O e n=>u.free b o e n O) (λb o O e=>u.there b o e O) u.tups u.frzs u.tbls (λm' hm=>by
  erw[hm,o',aa,ac,Z,r'];rw[ho] at Z;cases Z;exact⟨_,aa,ac,hL,r'⟩) hok hg
def Inv.turned {t':Nat}{it:o6}(I:#[I])(k:∀b o,b≠it->s.heap.get? b=u_ o->h'.get? b=u_ o)(hn:H it=U_)(Z:it≠X.env.locals)
  (h1:it∈X.ex∨X.s₀.heap.objs.size<=it) (h2:∀x c,X.env.cells.lookup x=u_ c->c≠it) (h3:∀p∈X.pn++ot,p.1≠it) (ht:0<t':=by ac_rfl):Inv X ot σ H {s with heap:=h',toks:=t'}:=by
 have U:∀b u,H b=u_ u->b≠it:=λb u e z=>by rw[z,hn] at e;cases e
 refine I.step (g':=s.gens) (d':=s.drawn) (ch:= [it]) (λb hb=>?_) (λb o _ _ O e _=>k b o (λz=>O (by simp[z])) e) (λb o _ _ O e _=>⟨o.slots,k b o (λz=>O (by simp[z])) e⟩) (λ_ _ _ _ n=>n)
  (λb o O e=>⟨o,k b o (λz=>O (by simp[z])) e⟩) (λ_ _ e=>e) (λ_ _ _ e=>e) (λb ps e=>⟨#[],by rw[e];simp⟩) (λm hm=>?_) (λb u e=>?_) I.bare
 ·have e:b=it:=by simpa using hb
  subst e;exact⟨h1,Z,h2,h3⟩
 ·erw[hm,o,es,ep,ho,r];exact⟨o,es,ep,k _ o (UC Z) ho,r⟩
 ·refine(I.hok b u e).stay (λc v O q=>k c v ?_ q) (λ_ q=>q) λ_ _ q=>q;rcases O with z|z
  ·rw[z];exact U b u e
  ·exact U c _ z
def Inv.tok (I:#[I])(t:Nat)(O:0<t:=by ac_rfl):Inv X ot σ H {s with toks:=t}:=I.un (h':=s.heap) (t':=t) Un.refl I.hok
def Inv.kept (I:#[I])(k:∀b u,s.heap.get? b=u_ u->h'.get? b=u_ u)(O:0<t':=by ac_rfl):Inv X ot σ H {s with heap:=h',toks:=t'}:=I.un (Un.kept k) (I.hok.kept k)
def Inv.laid {o:HO}(I:#[I])(k:∀b u,s.heap.get? b=u_ u->h'.get? b=u_ u)(O:#[0,s]<=a)(new:yy X.prog X.w (upd H a o) h' a o)(U:0<t':=by ac_rfl):
  Inv X ot σ (upd H a o) {s with heap:=h',toks:=t'}:=I.un (Un.laid k O (I.hok.fresh O)) (I.hok.laid k O new)
def Inv.write {x e:o6}{o:HO}{t':Nat}(I:#[I])(mu:Mut (H x))(U:e=x∨H e=u_ (.own x))(k:∀b u,b≠e->s.heap.get? b=u_ u->h'.get? b=u_ u)(O:∃u,h'.get? e=u_ u)
  (new:yy X.prog X.w (upd H x o) h' x o) (Z:0<t':=by ac_rfl):Inv X ot σ (upd H x o) {s with heap:=h',toks:=t'}:=I.un (Un.write mu U k O) (I.hok.write mu U k O new)
def Inv.pins_of {O:om (o6×Obj)}(I:#[I])(h:∀p∈O,s.heap.get? p.1=u_ p.2/\H p.1=U_/\p.1≠X.env.locals/\p.1∉X.fs/\∀v,p.2.data≠ .cell v):Inv X O σ H s:=
 ⟨I.ok,I.os,I.bare,I.base,I.loc,I.cell,I.free,I.freeC,λp U=>(Af.mp U).elim (λz=>I.pin p (vn _ z)) (h p),I.hok,I.len,I.tk⟩
variable {i j:Nat}{x:Str}
def Bn {N:om Str}(O:N.Nodup)(a:N[i]? =u_ x)(b:N[j]? =u_ x):i=j:=by
 erw[Ai.mp a,h1,U];erw[Ai.mp b,h2,Z];exact(List.getElem_inj O).mp (U.trans Z.symm)
def nC {M:GQ}{A:oj}{E:o7->o8->Prop}{i:Nat}{x:Str}{v:V}{u:o7}{Q:Unit->o8->Prop}(I:#[I])(hN:X.N.Nodup)(hi:X.N[i]? =u_ x)(hx:Loc X.env.scope x)(r:ik v u)
  (h:∀s',Inv X ot (σ.set i (u_ v)) H s'->(∃a,GZ a s.heap s'.heap/\(a=X.env.locals∨X.env.cells.lookup x=u_ a))->Q GL s') (hf:X.fn x=v_∨X.env.scope.names.lookup x=u_ .local:=by first|exact .inl rfl|exact .inr rfl|assumption):Vi M A (HV X.env x u) Q E s:=by
 erw[id I.loc,m,hn,hl];have ad:(X.env.scope.kind== .class||(X.env.scope.kind== .module&&X.env.locals !=X.env.globals))=false:=by rw[I.ok.kind];rfl
 have ae:i<↑σ:=by rw[I.len];exact(Ai.mp hi).1
 have cne:=I.cne;have U:∀{a:o6}{h':o9},(∃o,s.heap.get? a=u_ o/\H a=U_)->GZ a s.heap h'->HOk X.prog X.w H h':=λ{a h'} ha O b ob e=>by
  erw[ha,_,_,aa];refine(I.hok b ob e).stay (λc w' hc q=>(O.2 c ?_).trans q) (λ_ q=>q) λ_ _ q=>q;rintro rfl;rcases hc with rfl|hc
  ·rw[aa] at e;cases e
  ·rw[aa] at hc;cases hc
 rcases hx with hk|hk
 ·refine FB hk hn (λh' al O=>?_) ad;erw[id hn,oL,_,_,am,_];refine h _ ⟨I.ok,I.os,I.bare,⟨λb o e n hb hx=>?_,λb o e n hb hx=>?_,I.base.free,λb o e hx=>?_,I.base.tups,I.base.frzs,I.base.tbls⟩,[_:al:λj y v' Z e2 e3=>?_],λy c e=>?_,I.free,I.freeC,λp hp=>?_,U [oL:am:I.free] O,by simpa using I.len,by first|exact I.tk|exact Fd _⟩ [_:O:.inl rfl]
  ·exact(O.2 b (uO (Vw (uB e) I.ok.above))).trans (I.base.keep b o e n hb hx)
  ·erw[I.base.slot b o e n hb hx,sl,Z];exact[sl:(O.2 b (uO (Vw (uB e) I.ok.above))).trans Z]
  ·erw[I.base.there b o e hx,o',Z];exact[o':(O.2 b (uO (Vw (uB e) I.ok.above))).trans Z]
  ·by_cases hj:j=i
   ·subst hj;rw[hi] at Z;cases Z;rw[R1 ae] at e2;cases e2;exact⟨u,r,.inl ⟨hk,by simp⟩⟩
   ·rw[RE (UC hj)] at e2;erw[hl j y v' Z e2 e3,u',r',q];exists u',r';rcases q with⟨k,e⟩|⟨k,c,e,z⟩
    ·refine .inl [k:?_];have:y≠x:=λe=>hj (Bn hN Z (e▸hi));simp[this,e]
    ·exact .inr ⟨k,c,e,z.sameBut O (cne y c e)⟩
  ·erw[I.cell y c e,w',z];exact[w':z.sameBut O (cne y c e)]
  ·erw[I.pin p hp,e,n,ne,nf,d];exact⟨(O.2 p.1 ne).trans e,n,ne,nf,d⟩
 ·have ac:X.fn x=true:=by
   rcases hf with z|z
   ·exact z
   ·rw[z] at hk;cases hk
  erw[I.ok.has x (.inl hk),c,hc];erw[I.cell x c hc,w',z];refine wpAny_storeName_cell I.ok.kind hk hc z (λh' af O=>?_);erw[id z,oc,ag,ah];refine h {s with heap:=h'} ⟨I.ok,I.os,I.bare,⟨λb o e n hb hx=>?_,λb o e n hb hx=>?_,I.base.free,λb o e hx=>?_,I.base.tups,I.base.frzs,I.base.tbls⟩,[m:hn.sameBut O (UC (cne x c hc)):λj y v' Z e2 e3=>?_],λy c' e=>?_,I.free,I.freeC,λp hp=>?_,U [oc:ag:I.freeC x c hc] O,by simpa using I.len,by first|exact I.tk|exact Fd _⟩ [c:O:.inr hc]
  ·exact(O.2 b (uO (Vw (uB e) (I.ok.cab x c ac hc)))).trans (I.base.keep b o e n hb hx)
  ·erw[I.base.slot b o e n hb hx,sl,Z];exact[sl:(O.2 b (uO (Vw (uB e) (I.ok.cab x c ac hc)))).trans Z]
  ·erw[I.base.there b o e hx,o',Z];exact[o':(O.2 b (uO (Vw (uB e) (I.ok.cab x c ac hc)))).trans Z]
  ·by_cases hj:j=i
   ·subst hj;rw[hi] at Z;cases Z;rw[R1 ae] at e2;cases e2;exact[u:r:.inr ⟨.inl hk,c,hc,af⟩]
   ·rw[RE (UC hj)] at e2;erw[hl j y v' Z e2 e3,u',r',q];exists u',r';rcases q with q|⟨k,c',e,z'⟩
    ·exact .inl q
    ·refine .inr ⟨k,c',e,z'.sameBut O ?_⟩;rintro rfl;exact hj (Bn hN Z (I.ok.inj _ _ _ e hc▸hi))
  ·by_cases ak:c'=c
   ·subst ak;exact[_:af]
   ·erw[I.cell y c' e,w2,z2];exact[w2:z2.sameBut O ak]
  ·erw[I.pin p hp,e,n,ne,nf,d];exists (O.2 p.1 ?_).trans e,n,ne,nf,d;intro q;rw[q,ag] at e;have q':oc=p.2:=uF e;exact d w' (by rwa[<-q'])
def qae {M:GQ}{A:oj}{E:o7->o8->Prop}{i:Nat}{x:Str}{v:V}{u:o7}{Q:Unit->o8->Prop}(I:#[I])(O:X.N.Nodup)(hi:X.N[i]? =u_ x)(U:Loc X.env.scope x)(r:ik v u)
  (h:∀s',Inv X ot (σ.set i (u_ v)) H s'->Q GL s') (Z:X.fn x=v_∨X.env.scope.names.lookup x=u_ .local:=by first|exact .inl rfl|exact .inr rfl|assumption):Vi M A (HV X.env x u) Q E s:=
 nC I O hi U r (λs' I' _=>h s' I') Z
def Inv.call' {s':o8}{ch:om o6}(I:#[I])(U:s'.os=s.os)(u:Un (frs X.stack) ch H H' s.heap s'.heap)(hok:HOk X.prog X.w H' s'.heap)(Z:V_ s'.gens)
  (O:∀b∈ch,(b∈X.ex∨X.s₀.heap.objs.size<=b)/\b≠X.env.locals/\(∀x c,X.env.cells.lookup x=u_ c->c≠b)/\∀p∈X.pn++ot,p.1≠b) (ht:0<s'.toks:=by ac_rfl):Inv X ot σ H' s':=by
 erw[s',h',g',d',t',o'];have e:o'=s.os:=U;subst e;exact I.call (g':=g') (t':=t') (d':=d') u hok Z O
end
noncomputable abbrev XK:=o7->oq o6->Hp->Prop
noncomputable abbrev St:=om (oq V)
noncomputable abbrev VK:=V->Hp->Prop
noncomputable abbrev TE:=St->Hp->VK->Prop
noncomputable abbrev TT:=St->Hp->(Bool->Hp->Prop)->Prop
noncomputable abbrev TA:=St->Hp->(om V->Hp->Prop)->Prop
structure mW where
 nx:St->Hp->Prop
 rt:VK
 bk:St->Hp->Prop:=λ_ _=>False
 ct:St->Hp->Prop:=λ_ _=>False
noncomputable abbrev TS:=mW->St->Hp->Prop
nonrec def EP (X:Cx)(ot:om (o6×Obj))(σ:St)(Q:VK)(u:o7)(s':o8):Prop:=∃v H',Inv X ot σ H' s'/\ik v u/\Q v H'
nonrec def TP (X:Cx)(ot:om (o6×Obj))(σ:St)(Q:Bool->Hp->Prop)(b:Bool)(s':o8):Prop:=∃H',Inv X ot σ H' s'/\Q b H'
nonrec def AP (X:Cx)(ot:om (o6×Obj))(σ:St)(Q:om V->Hp->Prop)(us:om o7)(s':o8):Prop:=∃vs H',Inv X ot σ H' s'/\iq vs us/\Q vs H'
nonrec def SP (X:Cx)(ot:om (o6×Obj))(D:mW)(f:Flow)(s':o8):Prop:=
 match f with
 | .next=>∃σ' H',Inv X ot σ' H' s'/\D.nx σ' H'
 | .brk=>∃σ' H',Inv X ot σ' H' s'/\D.bk σ' H'
 | .cont=>∃σ' H',Inv X ot σ' H' s'/\D.ct σ' H'
 | .ret u=>∃v σ' H',Inv X ot σ' H' s'/\ik v u/\D.rt v H'
nonrec def PE (X:Cx)(e:Expr)(t:TE):Prop:=
 ∀(ot:om (o6×Obj)) (s:o8) (σ:St) (H:Hp) (Q:VK),#[I]->t σ H Q->Vi #[X,X] X.A (eval e X.env) (EP X ot σ Q) X.xe s
nonrec def PT (X:Cx)(e:Expr)(t:TT):Prop:=
 ∀(ot:om (o6×Obj)) (s:o8) (σ:St) (H:Hp) (Q:Bool->Hp->Prop),#[I]->t σ H Q->Vi #[X,X] X.A (isTrue e X.env (eval e X.env)) (TP X ot σ Q) X.xe s
nonrec def PW (X:Cx)(e:Expr)(t:TT):Prop:=
 ∀(whole:Sem o7) (ot:om (o6×Obj)) (s:o8) (σ:St) (H:Hp) (Q:Bool->Hp->Prop),#[I]->t σ H Q->Vi #[X,X] X.A (isTrue e X.env whole) (TP X ot σ Q) X.xe s
variable {X:Cx}
def PW.pt {e:Expr}{t:TT}(h:PW X e t):PT X e t:=h _
nonrec def PA (X:Cx)(es:om Expr)(t:TA):Prop:=
 ∀(pos:Pos) (ot:om (o6×Obj)) (s:o8) (σ:St) (H:Hp) (Q:om V->Hp->Prop),#[I]->t σ H Q->Vi #[X,X] X.A (Hl (Vu pos (Vm es X.env))) (AP X ot σ Q) X.xe s
nonrec def PS (X:Cx)(st:Stmt)(t:TS):Prop:=
 ∀(ot:om (o6×Obj)) (s:o8) (σ:St) (H:Hp) (D:mW),#[I]->t D σ H->Vi #[X,X] X.A (exec st X.env) (SP X ot D) X.xe s
nonrec def PSs (X:Cx)(st:om Stmt)(t:TS):Prop:=
 ∀(ot:om (o6×Obj)) (s:o8) (σ:St) (H:Hp) (D:mW),#[I]->t D σ H->Vi #[X,X] X.A (execs st X.env) (SP X ot D) X.xe s
variable {A:oj}{s:o8}
def thn {α:Type}{t:Sem α}{Q O:α->o8->Prop}{M:GQ}{E:o7->o8->Prop}(h:Vi M A t Q E s)(U:∀a s,Q a s->O a s):Vi M A t O E s:=vS h U λ_ _ x=>x
section
variable {X:Cx}
inductive S5 (i:Nat)(σ:St)(H:Hp)(Q:VK):Prop
 |mk (v:_)(_:σ[i]? =u_ (u_ v))(_:Q v H)
nonrec def tC (v:V):TE:=λ_ H Q=>Q v H
variable {i:Nat}{x:Str}
def AaC {pos:Pos}(hN:X.N[i]? =u_ x)(hv:Vis X.env.scope x)(hd:(x==("__debug__":Str))=false:=by decide)(Z:(x==("__classdict__":Str))=false:=by decide):PE X (.Name x pos) (S5 i):=by
 exists 2,Q,I,h;erw[h,v,e,h];erw[I.loc,m,hn,hl];erw[hl i x v hN e hv,u,r,l];have fin:EP X ot σ Q u s:=⟨v,H,I,r,h⟩;rcases l with⟨U,hm⟩|⟨U,c,hc,O⟩
 ·exact tS (FY I.ok.kind U hn hm fin) hd
 ·rcases U with U|U
  ·exact tS (rG I.ok.kind U hc O fin) hd
  ·exact tS (wpAny_loadName_free I.ok.kind U hc O fin Z) hd
def ql {i j pos}:PE X (.Constant (.int i) j pos) (tC (.int i)):=λ_ _ _ H _ I h=>wpAny_Constant_int ⟨.int i,H,I.tok _,⟨0⟩,h⟩
def ju {b j pos}:PE X (.Constant (.bool b) j pos) (tC (.bl b)):=λ_ _ _ H _ I h=>Constant_bool ⟨.bl b,H,I,1,h⟩
def Qe {j pos}:PE X (.Constant .none j pos) (tC .non):=λ_ _ _ H _ I h=>Constant_none ⟨.non,H,I,1,h⟩
def qp {x j pos}:PE X (.Constant (.str x) j pos) (tC (.str x)):=λ_ _ _ H _ I h=>Calls.Constant_str ⟨.str x,H,I.tok _,⟨0⟩,h⟩
nonrec def Gl (X:Cx)(x:Str):Prop:=X.env.kindOf x=u_ .globalImplicit
def KA {E:o7->o8->Prop}{ot:om (o6×Obj)}{s:o8}{σ:St}{H:Hp}{x:Str}{u:o7}{pos:Pos}{Q:o7->o8->Prop}(I:#[I])(O:Gl X x)(hm:X.mg x=u_ u)(h:Q u s)
  (hd:(x==("__debug__":Str))=false:=by decide):Vi #[X,X] X.A (eval (.Name x pos) X.env) Q E s:=
 RA I.ok.kind O (Calls.loadGlobal_global (by rw[I.ok.glob];exact I.mod.glob.keeps I.bk) hm h) hd
def zh {E:o7->o8->Prop}{ot:om (o6×Obj)}{s:o8}{σ:St}{H:Hp}{x:Str}{u:o7}{pos:Pos}{Q:o7->o8->Prop}(I:#[I])(O:Gl X x)(hm:X.mg x=U_)(U:Gf x=u_ u)(h:Q u s)
  (hn:x≠"__name__":=by decide) (hd:(x==("__debug__":Str))=false:=by decide):Vi #[X,X] X.A (eval (.Name x pos) X.env) Q E s:=by
 erw[I.mod.blt,mb,h1,h2];exact RA I.ok.kind O (Calls.loadGlobal_builtin (by rw[I.ok.glob];exact I.mod.glob.keeps I.bk) hm (by rw[I.ok.blt];exact h1.keeps I.bk) ((h2 x hn).trans U) h) hd
variable {v:V}{u:o7}
def sY {pos:Pos}(O:Gl X x)(hm:X.mg x=u_ u)(r:ik v u)(hd:(x==("__debug__":Str))=false:=by decide):PE X (.Name x pos) (tC v):=
 λ_ _ _ H _ I h=>KA I O hm ⟨v,H,I,r,h⟩ hd
def Q7 {x:Str}{v:V}{u:o7}{pos:Pos}(O:Gl X x)(hm:X.mg x=U_)(U:Gf x=u_ u)(r:ik v u)(hn:x≠"__name__")(hd:(x==("__debug__":Str))=Vh):PE X (.Name x pos) (tC v):=
 λ_ _ _ H _ I h=>zh I O hm U ⟨v,H,I,r,h⟩ hn hd
variable {a b:Expr}{ta tb:TE}{pos:Pos}
nonrec def PC (X:Cx)(op:GD)(a b:Expr)(t:TE):Prop:=
 ∀(ot:om (o6×Obj)) (s:o8) (σ:St) (H:Hp) (Q:VK),#[I]->t σ H Q->
  Vi #[X,X] X.A (eval a X.env) (λv s₁=>Vi #[X,X] X.A (eval b X.env) (λu s₂=>Vi #[X,X] X.A (Vt op v u) (EP X ot σ Q) X.xe s₂) X.xe s₁) X.xe s
inductive ItB (Q:(Bool->Hp->Prop))(x:V)(H1:Hp):Prop
 |mk (c:_)(_:x= .bl c)(_:Q c H1)
nonrec def tB (t:TE):TT:=λσ H Q=>t σ H λx H1=>ItB Q x H1
def AaG {O:GD}{t:TE}(h:PC X O a b t)(h1:GK O b=Vh):PE X (.Compare a [O] [b] pos) t:=λot s σ H Q I U=>RZ (h ot s σ H Q I U) h1
def xF {O:GD}{t:TE}(h:PC X O a b t)(h1:GK O b=Vh):PT X (.Compare a [O] [b] pos) (tB t):=by
 exists 2,Q,I,U;refine r_ (thn (h ot s σ H _ I U) λv s1 h1=>thn h1 λu s2 h2=>thn h2 λc s3 zq=>?_) h1;erw[zq,x,H1,Z,r1,q1];erw[q1,d,rfl,q];cases r1;exact vz [H1:Z:q]
def Qo {e:Expr}{t:TE}(h:PE X e t)(U:∀O,isTrue e X.env O=(do let v<-O;Hi e.pos;Gj [v] (truthy v))):PT X e (tB t):=by
 exists 2,Q,I,Z;refine Fv (thn (h ot s σ H _ I Z) λv s1 zq=>?_) (U _);erw[zq,x,H1,I1,r1,q1];erw[q1,d,rfl,q];cases r1;exact vz [H1:I1:q]
variable {tA tB':TT}{rest:om Expr}
nonrec def AdX (t u:TT):TT:=λσ H Q=>t σ H λc H1=>if c=v_ then u σ H1 Q else Q Vh H1
nonrec def tOr (t u:TT):TT:=λσ H Q=>t σ H λc H1=>if c=v_ then Q v_ H1 else u σ H1 Q
nonrec def AdR (t:TT):TT:=λσ H Q=>t σ H λc H1=>Q (!c) H1
def Jy (ha:PT X a tA):PW X (.BoolOp .And [a] pos) tA:=by
 intro O ot s σ H Q I h;refine isTrue_and (thn (ha ot s σ H Q I h) λc s1 e=>?_);cases c with
 |true=>exact isTrue_and_nil e
 |false=>exact e
def xJ (ha:PT X a tA):PW X (.BoolOp .Or [a] pos) tA:=by
 intro O ot s σ H Q I h;refine isTrue_or (thn (ha ot s σ H Q I h) λc s1 e=>?_);cases c with
 |false=>exact isTrue_or_nil e
 |true=>exact e
def zm (ha:PT X a tA)(U:PW X (.BoolOp .And (b::rest) pos) tB'):PW X (.BoolOp .And (a::b::rest) pos) (AdX tA tB'):=by
 intro Z ot s σ H Q I h;refine isTrue_and (thn (ha ot s σ H _ I h) λc s1 zq=>?_);erw[zq,H1,O,q1];cases c with
 |true=>exact U Z ot s1 σ H1 Q O q1
 |false=>exact[H1:O:q1]
def ZT (ha:PT X a tA)(U:PW X (.BoolOp .Or (b::rest) pos) tB'):PW X (.BoolOp .Or (a::b::rest) pos) (tOr tA tB'):=by
 intro Z ot s σ H Q I h;refine isTrue_or (thn (ha ot s σ H _ I h) λc s1 zq=>?_);erw[zq,H1,O,q1];cases c with
 |true=>exact[H1:O:q1]
 |false=>exact U Z ot s1 σ H1 Q O q1
def QD (ha:PT X a tA):PT X (.UnaryOp .Not a pos) (AdR tA):=by
 exists 2,Q,I,h;exact isTrue_not (ha ot s σ H (λc H1=>Q (!c) H1) I h)
inductive AbS (tb:TE)(σ:St)(Q:VK)(x:V)(H1:Hp):Prop
 |mk (c:_)(_:x= .bl c)(_:if c=v_ then tb σ H1 Q else Q (.bl Vh) H1)
nonrec def Acr (ta tb:TE):TE:=λσ H Q=>ta σ H λx H1=>AbS tb σ Q x H1
inductive Adi (tb:TE)(σ:St)(Q:VK)(x:V)(H1:Hp):Prop
 |mk (c:_)(_:x= .bl c)(_:if c=v_ then Q (.bl v_) H1 else tb σ H1 Q)
nonrec def AdQ (ta tb:TE):TE:=λσ H Q=>ta σ H λx H1=>Adi tb σ Q x H1
def pe_one {op}{t:TE}(h:PE X a t):PE X (.BoolOp op [a] pos) t:=λot s σ H Q I O=>BoolOp_one (h ot s σ H Q I O)
def Bh (ha:PE X a ta)(U:PE X (.BoolOp .And (b::rest) pos) tb):PE X (.BoolOp .And (a::b::rest) pos) (Acr ta tb):=by
 exists 2,Q,I,h;refine BoolOp_and (thn (ha ot s σ H _ I h) λv s1 zq=>?_);erw[zq,x,H1,O,Z,q1];erw[q1,c,rfl,q1];cases Z;refine vz ?_;cases c with
 |true=>exact U ot s1 σ H1 Q O q1
 |false=>exact⟨.bl Vh,H1,O,1,q1⟩
def AcE (ha:PE X a ta)(U:PE X (.BoolOp .Or (b::rest) pos) tb):PE X (.BoolOp .Or (a::b::rest) pos) (AdQ ta tb):=by
 exists 2,Q,I,h;refine BoolOp_or (thn (ha ot s σ H _ I h) λv s1 zq=>?_);erw[zq,x,H1,O,Z,q1];erw[q1,c,rfl,q1];cases Z;refine vz ?_;cases c with
 |false=>exact U ot s1 σ H1 Q O q1
 |true=>exact⟨.bl v_,H1,O,1,q1⟩
nonrec def tIf (t:TT)(ta tb:TE):TE:=λσ H Q=>t σ H λc H1=>if c=v_ then ta σ H1 Q else tb σ H1 Q
def ym {c:Expr}(U:PT X c tA)(ha:PE X a ta)(Z:PE X b tb):PE X (.IfExp c a b pos) (tIf tA ta tb):=by
 exists 2,Q,I,h;refine wpAny_IfExp (thn (U ot s σ H _ I h) λd s1 zq=>?_);erw[zq,H1,O,q1];cases d with
 |true=>exact ha ot s1 σ H1 Q O q1
 |false=>exact Z ot s1 σ H1 Q O q1
end
nonrec def SqL (K:o0)(H:Hp)(a:o6)(xs:om V):Prop:=
 Rd H a (.lst xs)∨
  ∃(o:Obj) (its:Array o7) (n:Nat),K.lookup a=u_ o/\o.cls= .type "list"/\o.dict=U_/\o.data= .seq its n/\its.size<=Vl/\iq xs its.toList
nonrec def SqT (K:o0)(H:Hp)(a:o6)(xs:om V):Prop:=
 Rd H a (.tup xs)∨
  ∃(o:Obj) (its:Array o7) (n:Nat),K.lookup a=u_ o/\o.cls= .type "tuple"/\o.data= .seq its n/\its.size<=Vl/\iq xs its.toList
nonrec def Aeh:o7->oq V
 | .none=>u_ .non
 | .bool b=>u_ (.bl b)
 | .int i _=>u_ (.int i)
 | .str x _=>u_ (.str x)
 | .bytes b _=>u_ (.byt b)
 | .float b _=>u_ (.flt b)
 | .ref a=>u_ (.ref a)
 | .type n=>u_ (.ty n)
 |_=>U_
variable {u:o7}
def ik.abs {x:V}(r:ik x u):Aeh u=u_ x:=by
 cases x with
 |non=>cases r;rfl
 |bl _=>cases r;rfl
 |int _=>erw[r,t,rfl];rfl
 |str _=>erw[r,t,rfl];rfl
 |byt _=>erw[r,t,rfl];rfl
 |flt _=>erw[r,t,rfl];rfl
 |ref _=>cases r;rfl
 |ty _=>cases r;rfl
variable {y:V}
def ik.inj {x:V}(r:ik x u)(q:ik y u):x=y:=uF (r.abs.symm.trans q.abs)
def iq.inj:∀{xs ys:om V}{us:om o7},iq xs us->iq ys us->xs=ys
 |_,_,_,.nil,.nil=>rfl
 |_,_,_,.cons r t,.cons r' t'=>by rw[r.inj r',iq.inj t t']
section
variable {X:Cx}{ot:om (o6×Obj)}{σ:St}{H:Hp}{s:o8}{a:o6}{xs ys:om V}
variable {K:o0}
def SqL.of (h:H a=u_ (.lst xs)):SqL K H a xs:= .inl (.inl h)
def SqT.of (h:H a=u_ (.tup xs)):SqT K H a xs:= .inl (.inl h)
def Inv.list (I:#[I])(h:SqL X.K H a xs):∃its:om o7,iq xs its/\PlainL s.heap a its.toArray/\↑xs<=sizeLine:=by
 rcases h with h|⟨o,its,n,O,U,hd,Z,hz,r⟩
 ·erw[h.ok I.hok,z,its,n,r,e];exact⟨its,r,⟨_,n,e,1,1,1⟩,z⟩
 ·exists its.toList,r,⟨o,n,I.kIn a o O,U,hd,by simpa using Z⟩
  have e:=↑r;simp![v9] at e;omega
def Inv.tuple (I:#[I])(h:SqT X.K H a xs):∃its:om o7,iq xs its/\GO s.heap a its.toArray/\↑xs<=sizeLine:=by
 rcases h with h|⟨o,its,n,O,U,Z,hz,r⟩
 ·erw[h.ok I.hok,z,its,r,p];exact⟨its,r,p,z⟩
 ·exists its.toList,r,⟨o,I.kIn a o O,U,n,by simpa using Z⟩
  have e:=↑r;simp![v9] at e;omega
def Inv.list_inj (I:#[I])(h:SqL X.K H a xs)(h':SqL X.K H a ys):xs=ys:=by
 erw[I.list h,its,r,[o,n,e,_,_,d],_];erw[I.list h',its',U,[o',n',O,_,_,d'],_];rw[e] at O;cases O;rw[d] at d';injection d' with Z _
 have:its=its':=by simpa using Ab Ru Z
 subst this;exact r.inj U
def Inv.tuple_inj (I:#[I])(h:SqT X.K H a xs)(h':SqT X.K H a ys):xs=ys:=by
 erw[I.tuple h,its,r,[o,e,_,n,d],_];erw[I.tuple h',its',U,[o',O,_,n',d'],_];rw[e] at O;cases O;rw[d] at d';injection d' with Z _
 have:its=its':=by simpa using Ab Ru Z
 subst this;exact r.inj U
end
noncomputable abbrev Cx.wish (X:Cx)(E:o7->o8->Prop):Cx:={X with xe:=E}
noncomputable abbrev Cx.nox (X:Cx):Cx:=X.wish λ_ _=>False
def Cx.Ok.wish (ok:X.Ok)(E:o7->o8->Prop):(X.wish E).Ok:=
 ⟨ok.mod,ok.kind,ok.glob,ok.blt,ok.above,ok.inj,ok.has,ok.cab,ok.hd,ok.frames,ok.stk,ok.exf,ok.bs,ok.bsz,ok.noex,ok.exfs,ok.funs,ok.frf⟩
def Cx.Ok.unwish {E:o7->o8->Prop}(ok:(X.wish E).Ok):X.Ok:=
 ⟨ok.mod,ok.kind,ok.glob,ok.blt,ok.above,ok.inj,ok.has,ok.cab,ok.hd,ok.frames,ok.stk,ok.exf,ok.bs,ok.bsz,ok.noex,ok.exfs,ok.funs,ok.frf⟩
section
variable {X:Cx}{ot:om (o6×Obj)}{σ:St}{H:Hp}{s:o8}{E:o7->o8->Prop}
def Inv.wish (I:#[I])(E:o7->o8->Prop):Inv (X.wish E) ot σ H s:=⟨I.ok.wish E,I.os,I.bare,I.base,I.loc,I.cell,I.free,I.freeC,I.pin,I.hok,I.len,I.tk⟩
def Inv.unwish (I:Inv (X.wish E) ot σ H s):#[I]:=⟨I.ok.unwish,I.os,I.bare,I.base,I.loc,I.cell,I.free,I.freeC,I.pin,I.hok,I.len,I.tk⟩
def SP.unwish {D:mW}{f:Flow}{s':o8}(h:SP (X.wish E) ot D f s'):SP X ot D f s':=by
 cases f with
 |next=>erw[h,O,H',I,q];exact⟨O,H',I.unwish,q⟩
 |brk=>erw[h,O,H',I,q];exact⟨O,H',I.unwish,q⟩
 |cont=>erw[h,O,H',I,q];exact⟨O,H',I.unwish,q⟩
 |ret u=>erw[h,v,O,H',I,r,q];exact⟨v,O,H',I.unwish,r,q⟩
def PSs.nox {st:om Stmt}{t:TS}(h:PSs X.nox st t):PSs X st t:=λot s σ H D I hw=>
 vS (h ot s σ H D (I.wish _) hw) (λ_ _ q=>q.unwish) λ_ _ z=>VN z
end
section
variable {X:Cx}{st:Stmt}{rest:om Stmt}{t u:TS}{e:Expr}{te:TE}{pos:Pos}
nonrec def S8:TS:=λD σ H=>D.nx σ H
nonrec def mX (t u:TS):TS:=λD σ H=>t {D with nx:=u D} σ H
def qx:PSs X [] S8:=λ_ _ σ H _ I h=>Hn ⟨σ,H,I,h⟩
def qg (h1:PS X st t)(h2:PSs X rest u):PSs X (st::rest) (mX t u):=by
 exists 2,D,I,h;refine F_ (thn (h1 ot s σ H {D with nx:=u D} I h) λf s1 q=>?_)
 cases f with
 |next=>
  erw[q,O,H',U,q];exact h2 ot s1 O H' D U q
 |ret v=>exact q
 |brk=>exact q
 |cont=>exact q
def qj (h1:PS X st t):PSs X [st] t:=by
 exists 2,D,I,h;refine F_ (thn (h1 ot s σ H D I h) λf s1 q=>?_);cases f with
 |next=>exact Hn q
 |ret v=>exact q
 |brk=>exact q
 |cont=>exact q
nonrec def Aaf:TS:=λD σ H=>D.bk σ H
nonrec def Aco:TS:=λD σ H=>D.ct σ H
def OJ:PS X (.Pass pos) S8:=λ_ _ σ H _ I h=>wpAny_Pass ⟨σ,H,I,h⟩
def Ll:PS X (.Break pos) Aaf:=λ_ _ σ H _ I h=>wpAny_Break ⟨σ,H,I,h⟩
def sW:PS X (.Continue pos) Aco:=λ_ _ σ H _ I h=>wpAny_Continue ⟨σ,H,I,h⟩
variable {ot:om (o6×Obj)}{σ:St}
def Inv.quiet (I:#[I]):ph X.env=false:=by simp[ph,I.ok.kind]
nonrec def Acm (te:TE):TS:=λD σ H=>te σ H λ_ H1=>D.nx σ H1
def Qd (O:PE X e te)(U:hZ e U_ pos.line X.env=pure Vh):PS X (.Expr e pos) (Acm te):=by
 exists 2,D,I,h;exact wpAny_Expr_any (thn (O ot s σ H _ I h) λv s1 ⟨x,H1,Z,r1,q1⟩=>⟨σ,H1,Z,q1⟩) I.quiet U
nonrec def AdP (te:TE):TS:=λD σ H=>te σ H D.rt
def qv (O:PE X e te):PS X (.Return (u_ e) pos) (AdP te):=by
 exists 2,D,I,h;exact wpAny_Return_some (thn (O ot s σ H _ I h) λv s1 ⟨x,H1,U,Z,q1⟩=>⟨x,σ,H1,U,Z,q1⟩)
nonrec def Aci:TS:=λD _ H=>D.rt .non H
def OH:PS X (.Return U_ pos) Aci:=λ_ _ σ H _ I h=>wpAny_Return_none ⟨.non,σ,H,I,1,h⟩
nonrec def Adt (c:TT)(t u:TS):TS:=λD σ H=>c σ H λb H1=>if b=v_ then t D σ H1 else u D σ H1
def qK {c:Expr}{a b:om Stmt}{tc:TT}(U:PT X c tc)(ha:PSs X a t)(Z:PSs X b u):PS X (.If c a b pos) (Adt tc t u):=by
 exists 2,D,I,h;refine wpAny_If (thn (U ot s σ H _ I h) λd s1 zq=>?_);erw[zq,H1,O,q1];cases d with
 |true=>exact ha ot s1 σ H1 D O q1
 |false=>exact Z ot s1 σ H1 D O q1
nonrec def S9:TS:=λ_ _ _=>False
def jS:PS X st S9:=λ_ _ _ _ _ _ h=>h.elim
end
noncomputable abbrev TG:=V->St->Hp->(St->Hp->Prop)->Prop
noncomputable abbrev TGs:=om V->St->Hp->(St->Hp->Prop)->Prop
nonrec def PG (X:Cx)(target:Expr)(t:TG):Prop:=
 ∀(ot:om (o6×Obj)) (s:o8) (σ:St) (H:Hp) (v:V) (u:o7) (Q:St->Hp->Prop),#[I]->ik v u->t v σ H Q->
  Vi #[X,X] X.A (gX target X.env u) (λ_ s'=>∃σ' H',Inv X ot σ' H' s'/\Q σ' H') X.xe s
nonrec def PGs (X:Cx)(ts:om Expr)(t:TGs):Prop:=
 ∀(ot:om (o6×Obj)) (s:o8) (σ:St) (H:Hp) (vs:om V) (us:om o7) (Q:St->Hp->Prop),#[I]->iq vs us->t vs σ H Q->
  Vi #[X,X] X.A (assignInOrder ((gP ts X.env).map (·.2)) us) (λ_ s'=>∃σ' H',Inv X ot σ' H' s'/\Q σ' H') X.xe s
noncomputable abbrev Adg:=V->V->V->Hp->(Hp->Prop)->Prop
nonrec def AdK (X:Cx)(t:Adg):Prop:=
 ∀(ot:om (o6×Obj)) (s:o8) (σ:St) (H:Hp) (o i v:V) (ov iv u:o7) (Q:Hp->Prop),#[I]->ik o ov->ik i iv->ik v u->t o i v H Q->
  Vi #[X,X] X.A (Fc ov iv u) (λ_ s'=>∃H',Inv X ot σ H' s'/\Q H') X.xe s
noncomputable abbrev TIp:=V->V->Hp->VK->Prop
nonrec def PIp (X:Cx)(op:GX)(t:TIp):Prop:=
 ∀(ot:om (o6×Obj)) (s:o8) (σ:St) (H:Hp) (x y:V) (v u:o7) (Q:VK),#[I]->ik x v->ik y u->t x y H Q->
  Vi #[X,X] X.A (Tf op v u) (EP X ot σ Q) X.xe s
section
variable {X:Cx}{pos:Pos}
nonrec def Y5 (i:Nat):TG:=λv σ H Q=>Q (σ.set i (u_ v)) H
def qU {i:Nat}{x:Str}(O:X.N.Nodup)(hi:X.N[i]? =u_ x)(U:Loc X.env.scope x)(Z:X.fn x=v_∨X.env.scope.names.lookup x=u_ .local):PG X (.Name x pos) (Y5 i):=by
 exists 2,v,u,Q,I,r,h;exact R9 (qae I O hi U r (λs' I'=>⟨_,H,I',h⟩) Z)
nonrec def AdG:TGs:=λvs σ H Q=>vs= []/\Q σ H
nonrec def Si (t:TG)(u:TGs):TGs:=λvs σ H Q=>∃v r,vs=v::r/\t v σ H λσ' H'=>u r σ' H' Q
def Kl:PGs X [] AdG:=by
 exists 2,vs,us,Q,I,r,h;erw[h,e,h];subst e;cases r;exact assignInOrder_nil ⟨σ,H,I,h⟩
def YD {e:Expr}{es:om Expr}{t:TG}{u:TGs}(h1:PG X e t)(h2:PGs X es u)
  (O:(gP (e::es) X.env).map (·.2)=gX e X.env::(gP es X.env).map (·.2):=by rfl):PGs X (e::es) (Si t u):=by
 exists 2,vs,us,Q,I,r,h;erw[h,v,vr,U,h];subst U;cases r with
 |cons r rr=>
  rw[O];refine assignInOrder_cons (thn (h1 ot s σ H _ _ _ I r h) λ_ s1 zq=>?_);erw[zq,Z,H1,I1,q1];exact h2 ot s1 Z H1 _ _ Q I1 rr q1
nonrec def Ac0 (K:o0)(n:Nat)(t:TGs):TG:=λv σ H Q=>∃a xs,v= .ref a/\SqT K H a xs/\↑xs=n/\t xs σ H Q
def Du {es:om Expr}{k:Nat}{t:TGs}{n:Nat}(Z:X.calm=v_)(h:PGs X es t)
  (hn:↑(gP es X.env)=n:=by rfl) (O:(gP es X.env).findIdx? (·.1)=none:=by rfl):PG X (.Tuple es k pos) (Ac0 X.K n t):=by
 exists 2,v,u,Q,I,r,U;erw[U,a,xs,e1,hq,hl,U];subst e1;cases r;erw[I.tuple hq,its,rv,ht,hz];refine assign_Tuple_tuple (I.ok.hd Z) ht (by simp[hn,<-hl,rv.length]) O λh' hx=>?_
 have I1:Inv X ot σ H {s with heap:=h'}:=I.kept (t':=s.toks) λb o e=>hx b o (uO (uB e)) e
 exact h ot _ σ H xs _ Q I1 (by simpa using rv) U
nonrec def Aef (to ti:TE)(t:Adg):TG:=λv σ H Q=>to σ H λo H1=>ti σ H1 λi H2=>t o i v H2 λH3=>Q σ H3
def MI {o i:Expr}{to ti:TE}{t:Adg}(U:PE X o to)(hi:PE X i ti)(Z:AdK X t)
  (ha:∀v,gX (.Subscript o i pos) X.env v=(do
   let ov<-Gj [v] (eval o X.env)
   let O<-Gj [v,ov] (eval i X.env)
   Hi pos
   Gj [v,ov,O] (Fc ov O v)
   release [v,ov,O] [])):PG X (.Subscript o i pos) (Aef to ti t):=by
 exists 2,v,u,Q,I,r,h;rw[ha];refine A8 (VM (thn (U ot s σ H _ I h) λov s1 zq=>?_));erw[zq,x,H1,I1,r1,q1];refine A8 (VM (thn (hi ot s1 σ H1 _ I1 q1) λO s2 zq=>?_));erw[zq,y,H2,I2,r2,q2];refine A8 (HA (A8 (VM (thn (Z ot s2 σ H2 x y v ov O u _ I2 r1 r2 r q2) λ_ s3 zq=>?_))));erw[zq,H3,I3,q3];exact wpAny_release ⟨σ,H3,I3,q3⟩
nonrec def Acq (te:TE)(g:TG):TS:=λD σ H=>te σ H λx H1=>g x σ H1 D.nx
def Be {tg e:Expr}{te:TE}{g:TG}(O:PE X e te)(U:PG X tg g)(Z:swapsWithSole [tg] e pos.line X.env=pure Vh)(hw:swappedStores [tg] e X.env=pure U_)
  (h1:(gP [tg] X.env).map (·.2)= [gX tg X.env]):PS X (.Assign [tg] e pos) (Acq te g):=by
 exists 2,D,I,h;refine wpAny_Assign_stores (thn (O ot s σ H _ I h) λv s1 zq=>?_) Z hw;erw[zq,x,H1,I1,r1,q1];rw[h1];exact thn (U ot s1 σ H1 x v _ I1 r1 q1) λ_ s2 q=>q
def qD {i:Nat}{x:Str}{e:Expr}{te:TE}{pos':Pos}(O:X.N.Nodup)(hi:X.N[i]? =u_ x)(U:Loc X.env.scope x)(Z:PE X e te)(hs:hZ e (u_ (.Name x pos')) pos.line X.env=pure Vh)(hf:X.fn x=v_∨X.env.scope.names.lookup x=u_ .local):
  PS X (.Assign [.Name x pos'] e pos) (Acq te (Y5 i)):=by
 exists 2,D,I,h;refine wpAny_Assign_Name (thn (Z ot s σ H _ I h) λv s1 zq=>?_) hs;erw[zq,y,H1,I1,r1,q1];exact qae I1 O hi U r1 (λs2 I2=>⟨_,H1,I2,q1⟩) hf
inductive AdW (i:Nat)(te:TE)(ti:TIp)(D:mW)(σ:St)(H:Hp):Prop
 |mk (x:_)(_:σ[i]? =u_ (u_ x))(_:te σ H λy H1=>ti x y H1 λz H2=>D.nx (σ.set i (u_ z)) H2)
def ME {i:Nat}{x:Str}{e:Expr}{te:TE}{Z:GX}{ti:TIp}{pos':Pos}(hN:X.N.Nodup)(hi:X.N[i]? =u_ x)(hx:Loc X.env.scope x)(he:PE X e te)(ho:PIp X Z ti)(hf:X.fn x=v_∨X.env.scope.names.lookup x=u_ .local):
  PS X (.AugAssign (.Name x pos') Z e pos) (AdW i te ti):=by
 exists 2,D,I,h;erw[h,v,e1,h];erw[I.loc,m,hn,hl];have aa:Vis X.env.scope x:=by rcases hx with k|k;exact .inl k;exact .inr (.inl k)
 erw[hl i x v hi e1 aa,u,r,l];refine wpAny_AugAssign_Name ?_;have go:Vi #[X,X] X.A (eval e X.env) (λw s₂=>Vi #[X,X] X.A (Tf Z u w) (λr s₃=>Vi #[X,X] X.A (HV X.env x r) (λ_=>SP X ot D .next) X.xe s₃) X.xe s₂) X.xe s:=by
  refine thn (he ot s σ H _ I h) λw s1 zq=>?_;erw[zq,y,H1,I1,r1,q1];refine thn (ho ot s1 σ H1 v y u w _ I1 r r1 q1) λz s2 zq=>?_;erw[zq,zv,H2,I2,r2,q2];exact qae I2 hN hi hx r2 (λs3 I3=>⟨_,H2,I3,q2⟩) hf
 rcases l with⟨O,hm⟩|⟨O,c,hc,U⟩
 ·exact FY I.ok.kind O hn hm go
 ·rcases O with O|O
  ·exact rG I.ok.kind O hc U go
  ·rcases hx with k|k
   ·have:X.env.scope.names.lookup x=u_ .free:=O;rw[k] at this;cases this
   ·have:X.env.scope.names.lookup x=u_ .free:=O;rw[k] at this;cases this
nonrec def ipI (f:Int->Int->Int):TIp:=λx y H Q=>∃i j,x= .int i/\y= .int j/\Q (.int (f i j)) H
def M9:PIp X .Add (ipI λi j=>i+j):=by
 exists 2,x,y,v,u,Q,I,O,U,h;erw[h,i,j,Z,e2,q];subst Z;subst e2;erw[O,t,rfl];erw[U,t',rfl];exact iadd_int ⟨.int _,H,I.tok _,⟨0⟩,q⟩
nonrec def Ms (c:TT)(tb:TS):TS:=λD σ H=>∃W:Nat->St->Hp->Prop,(∃m,W m σ H)/\∀m σ H,W m σ H->
 c σ H λb H1=>if b=v_ then∃N:St->Hp->Prop,(∀σ' H',N σ' H'->∃m',m'<m/\W m' σ' H')/\tb {D with nx:=N,ct:=N,bk:=D.nx} σ H1 else D.nx σ H1
def ji {c:Expr}{O:om Stmt}{tc:TT}{tb:TS}(hp:PassesOwn #[X,X] X.A X.env X.xe)(hc:PT X c tc)(hb:PSs X O tb):PS X (.While c O [] pos) (Ms tc tb):=by
 exists 2,D,I,h;erw[h,W,[m0,w0],U];refine wpAny_While (codeAny_whileLoop (λn s'=>∃σ' H',Inv X ot σ' H' s'/\W n σ' H') ?_ m0 ⟨σ,H,I,w0⟩);rintro n s1 ⟨σ1,H1,I1,w1⟩;refine Ud hp (thn (hc ot s1 σ1 H1 _ I1 (U n σ1 H1 w1)) λb s2 zq=>?_);erw[zq,H2,I2,q2];cases b with
 |true=>
  erw[q2,N,hN,q2];rw[A6 rfl];refine Ud hp (thn (hb ot s2 σ1 H2 _ I2 q2) λf s3 q3=>?_);cases f with
  |next=>
   erw[q3,Z,H3,I3,n3];erw[hN Z H3 n3,m',hm,w3];exact⟨m',hm,Z,H3,I3,w3⟩
  |cont=>
   erw[q3,Z,H3,I3,n3];erw[hN Z H3 n3,m',hm,w3];exact⟨m',hm,Z,H3,I3,w3⟩
  |brk=>exact q3
  |ret v=>exact q3
 |false=>
  rw[A4 ua];exact Hn ⟨σ1,H2,I2,q2⟩
end
structure It where
 go:Nat->Hp->Prop
 yld:Nat->Hp->V->Hp->Prop
 stop:Nat->Hp->Prop
nonrec def AF (X:Cx)(ot:om (o6×Obj))(H:Hp)(b:o6):Prop:=
 H b=U_/\b≠X.env.locals/\b∉X.fs/\(b∈X.ex∨X.s₀.heap.objs.size<=b)/\(∀x c,X.env.cells.lookup x=u_ c->c≠b)/\∀p∈X.pn++ot,p.1≠b
variable {ot:om (o6×Obj)}{σ:St}{H':Hp}
def Inv.fpOk (I:#[I])(O:#[0,s]<=b)(hn:H' b=U_):AF X ot H' b:=by
 exists hn,vZ (Vw I.lt O),I.nofs O,.inr (uL I.sz O),λx c e z=>?_,λp U z=>?_
 ·erw[I.cell x c e,v,q];exact Aa (Vw q.lt (by rwa[z])) (vN _)
 ·exact Aa (Vw (uB (I.pin p U).1) (by rwa[z])) (vN _)
structure Np (P:og)(w:oh)(K:o0)(tg:Expr)(J:It)(fp:om o6)(it:o6)(tn:Nat->o9->Prop):Prop where
 mem:it∈fp
 obj:∀i h,tn i h->∀b∈fp,∃o,h.get? b=u_ o/\∀v,o.data≠ .cell v
 keep:∀i h h',tn i h->(∀b∈fp,∀o,h.get? b=u_ o->h'.get? b=u_ o)->tn i h'
 item:∀(X:Cx),X.prog=P->X.w=w->X.K=K->X.calm=v_->∀(i:Nat) (ot:om (o6×Obj)) (s:o8) (σ:St) (H:Hp) (E:o7->o8->Prop),#[I]->(∀b∈fp,AF X ot H b)->tn i s.heap->J.go i H->
  Vi (Vz P w) X.A (gZ (.ref it)) (λr s1=>∃u,r=u_ u/\
   Vi (Vz P w) X.A (HQ tg (.ref it) u) (λ_ s2=>∃x H',Inv X ot σ H' s2/\ik x u/\J.yld i H x H'/\tn (i+1) s2.heap/\∀b∈fp,H' b=U_) E s1) E s
 done:∀(X:Cx),X.prog=P->X.w=w->X.K=K->X.calm=v_->∀(i:Nat) (ot:om (o6×Obj)) (s:o8) (σ:St) (H:Hp) (E:o7->o8->Prop),#[I]->(∀b∈fp,AF X ot H b)->tn i s.heap->J.stop i H->
  Vi (Vz P w) X.A (gZ (.ref it)) (λr s1=>r=U_/\Inv X ot σ H s1) E s
 self:∀(A:oj) (i:Nat) (s:o8) (Q:o7->o8->Prop) (E:o7->o8->Prop),tn i s.heap->Q (.ref it) s->Vi (Vz P w) A (H_ (.ref it)) Q E s
noncomputable abbrev TI:=St->Hp->(It->Hp->Prop)->Prop
nonrec def PIE (X:Cx)(ot:om (o6×Obj))(σ:St)(tg:Expr)(R:It->Hp->Prop)(itv:o7)(s2:o8):Prop:=
 ∃(it:o6) (fp:om o6) (tn:Nat->o9->Prop) (J:It) (H':Hp),itv= .ref it/\Inv X ot σ H' s2/\Np X.prog X.w X.K tg J fp it tn/\tn 0 s2.heap/\(∀b∈fp,AF X ot H' b)/\R J H'
nonrec def PI (X:Cx)(tg iter:Expr)(wi:TI):Prop:=
 ∀(ot:om (o6×Obj)) (s:o8) (σ:St) (H:Hp) (R:It->Hp->Prop),#[I]->wi σ H R->
  Vi #[X,X] X.A (eval iter X.env) (λv s1=>Vi #[X,X] X.A (H_ v) (PIE X ot σ tg R) X.xe s1) X.xe s
def Cs {M:GQ}{A:oj}{E:o7->o8->Prop}{s:o8}{tg:Expr}{it:o6}{u:o7}{o:Obj}{n:String}{vs:Array o7}{Q:Unit->o8->Prop}(U:s.heap.get? it=u_ o)(Z:o.cls= .type n)(hd:o.data= .fields vs)
  (hn: ["enumerate","zip","dict_itemiterator","dict_reverseitemiterator","odict_iterator","itertools.zip_longest","itertools.pairwise"].contains n=Vh) (O:Q GL s):Vi M A (HQ tg (.ref it) u) Q E s:=by
 unfold HQ;cases tg<;>first
  |exact uz O
  |(cases u<;>first
    |exact uz O
    |(refine A8 (tq U ?_)
      rw[Z,hd];show Vi M A (if(["enumerate","zip","dict_itemiterator","dict_reverseitemiterator","odict_iterator","itertools.zip_longest","itertools.pairwise"].contains n&&vs[0]? ==u_ (G6 _))=v_ then _ else _) Q E s
      rw[A4 (by intro h;rw[hn,T0] at h;cases h)]
      exact uz O))
nonrec def Itl (K:o0)(a:o6):It:=
 ⟨λi H=>∃xs x,SqL K H a xs/\xs[i]? =u_ x,λi H x H'=>H'=H/\∀xs,SqL K H a xs->xs[i]? =u_ x,λi H=>∃xs,SqL K H a xs/\↑xs<=i⟩
nonrec def Itt (K:o0)(a:o6):It:=
 ⟨λi H=>∃xs x,SqT K H a xs/\xs[i]? =u_ x,λi H x H'=>H'=H/\∀xs,SqT K H a xs->xs[i]? =u_ x,λi H=>∃xs,SqT K H a xs/\↑xs<=i⟩
nonrec def Itr (lo:Int)(n:Nat):It:=[λi _=>i<n:λi H x H'=>H'=H/\x= .int (lo+i):λi _=>n<=i]
variable {K:o0}{tg:Expr}
def CI {P:og}(a it:o6):Np P w K tg (Itl K a) [it] it (λi h=>h.IsListIter it a i) where
 mem:=by simp
 obj:=λi h st b O=>by
  have e:b=it:=by simpa using O
  subst e;erw[st,o,e,c,d];exact⟨o,e,λv z=>by rw[d] at z;cases z⟩
 keep:=λi h h' st k=>st.at λo e=>k it (by simp) o e
 item:=by
  intro X hP hw hK hc i ot s σ H E I Z st hg;subst hP hw hK;erw[hg,xs,x,hq,hx];erw[I.list hq,its,rv,p,hz];erw[rv.get hx,u,hu,ru];obtain⟨f0,f1,f2,f3,f4,f5⟩:=Z it (by simp)
  refine RU st p.isList (x:=u) (by simpa using hu) λh' U sb=>?_
  have I1:Inv X ot σ H {s with heap:=h'}:=I.turned (t':=s.toks) (λb o O e=>(sb.2 b O).trans e) f0 f1 f3 f4 f5
  erw[id U,o,e,c,d];exact⟨u,1,Cs (s:={s with heap:=h'}) e c d () ⟨x,H,I1,ru,⟨1,λys hy=>by rwa[I.list_inj hy hq]⟩,U,λb O=>(Z b O).1⟩⟩
 done:=by
  intro X hP hw hK hc i ot s σ H E I Z st hg;subst hP hw hK;erw[hg,xs,hq,hx];erw[I.list hq,its,rv,p,hz];obtain⟨f0,f1,f2,f3,f4,f5⟩:=Z it (by simp)
  have hl:=↑rv;exact RQ (I.ok.hd hc) st p.isList (by simp;omega) λh' eb=>[1:I.turned (t':=s.toks) (λb o O e=>eb b o O e) f0 f1 f3 f4 f5]
 self:=λ_ _ _ _ _ st h=>wpAny_pyIter_listiter st h
def kf {P:og}(a it:o6):Np P w K tg (Itt K a) [it] it (λi h=>h.IsTupleIter it a i) where
 mem:=by simp
 obj:=λi h st b O=>by
  have e:b=it:=by simpa using O
  subst e;erw[st,o,e,c,d];exact⟨o,e,λv z=>by rw[d] at z;cases z⟩
 keep:=λi h h' st k=>st.at λo e=>k it (by simp) o e
 item:=by
  intro X hP hw hK hc i ot s σ H E I Z st hg;subst hP hw hK;erw[hg,xs,x,hq,hx];erw[I.tuple hq,its,rv,p,hz];erw[rv.get hx,u,hu,ru];obtain⟨f0,f1,f2,f3,f4,f5⟩:=Z it (by simp)
  refine wpAny_pyNext_tuple_item st (show s.heap.IsTuple a its.toArray from p) (x:=u) (by simpa using hu) λh' U sb=>?_
  have I1:Inv X ot σ H {s with heap:=h'}:=I.turned (t':=s.toks) (λb o O e=>(sb.2 b O).trans e) f0 f1 f3 f4 f5
  erw[id U,o,e,c,d];exact⟨u,1,Cs (s:={s with heap:=h'}) e c d () ⟨x,H,I1,ru,⟨1,λys hy=>by rwa[I.tuple_inj hy hq]⟩,U,λb O=>(Z b O).1⟩⟩
 done:=by
  intro X hP hw hK hc i ot s σ H E I Z st hg;subst hP hw hK;erw[hg,xs,hq,hx];erw[I.tuple hq,its,rv,p,hz];obtain⟨f0,f1,f2,f3,f4,f5⟩:=Z it (by simp)
  have hl:=↑rv;exact wpAny_pyNext_tuple_end (I.ok.hd hc) st (show s.heap.IsTuple a its.toArray from p) (by simp;omega) λh' eb=>[1:I.turned (t':=s.toks) (λb o O e=>eb b o O e) f0 f1 f3 f4 f5]
 self:=λ_ _ _ _ _ st h=>wpAny_pyIter_tupleiter st h
def B5 {P:og}(it:o6)(lo:Int)(n:Nat):Np P w K tg (Itr lo n) [it] it (λi h=>FJ h it (lo+(i:Nat)*1) ((n:Int)-(i:Nat)) 1) where
 mem:=by simp
 obj:=λi h st b O=>by
  have e:b=it:=by simpa using O
  subst e;exact⟨_,st,λv z=>by
   have z':Data.fields _=Data.cell v:=z;cases z'⟩
 keep:=λi h h' st k=>k it (by simp) _ st
 item:=by
  intro X hP hw hK hc i ot s σ H E I Z st hg;subst hP hw hK;obtain⟨f0,f1,f2,f3,f4,f5⟩:=Z it (by simp)
  have W:=Walks.range (prog:=X.prog) (w:=X.w) (I.ok.hd hc) it lo 1 n;refine uX (n:=1) I.tk (W.item i s _ _ hg st λv h' tk hv U kk=>?_);intro htk;erw[hv,t,rfl];have I1:Inv X ot σ H {s with heap:=h',toks:=tk}:=I.turned (λb o O e=>kk b o (by simpa using O) e) f0 f1 f3 f4 f5
  exists 0,Cs (s:={s with heap:=h',toks:=tk}) (n:="range_iterator") U rfl rfl () ⟨.int (lo+i),H,I1,[t:?_],[1:1],U,λb O=>(Z b O).1⟩
  rw[Int.mul_one]
 done:=by
  intro X hP hw hK hc i ot s σ H E I Z st hg;subst hP hw hK;obtain⟨f0,f1,f2,f3,f4,f5⟩:=Z it (by simp)
  exact wpAny_pyNext_range_end (I.ok.hd hc) st (by have:n<=i:=hg;omega) λh' eb=>[1:I.turned (t':=s.toks) (λb o O e=>eb b o O e) f0 f1 f3 f4 f5]
 self:=λ_ _ _ _ _ st h=>wpAny_pyIter_rangeiter st h
section
variable {X:Cx}{tg:Expr}
inductive AbX (K:PySem.W.Frag)(R:(It->Hp->Prop))(x:V)(H1:Hp):Prop
 |mk (a:_)(_:x= .ref a)(_:(∃xs,SqL K H1 a xs))(_:R (Itl K a) H1)
nonrec def AcX (K:o0)(tl:TE):TI:=λσ H R=>tl σ H λx H1=>AbX K R x H1
inductive Adm (K:PySem.W.Frag)(R:(It->Hp->Prop))(x:V)(H1:Hp):Prop
 |mk (a:_)(_:x= .ref a)(_:(∃xs,SqT K H1 a xs))(_:R (Itt K a) H1)
nonrec def Aed (K:o0)(tl:TE):TI:=λσ H R=>tl σ H λx H1=>Adm K R x H1
def Zd {l:Expr}{tl:TE}(U:PE X l tl):PI X tg l (AcX X.K tl):=by
 exists 2,R,I,h;refine thn (U ot s σ H _ I h) λv s1 zq=>?_;erw[zq,x,H1,O,Z,q1];erw[q1,a,e,[xs,hq],q];subst e;cases Z;erw[O.list hq,its,rv,p,hz];refine V5 p.isList ?_;exists #[0,s1],[#[0,s1]],_,_,H1,1,O.kept (t':=s1.toks) λb o e=>ud _ e,CI a _,⟨_,uE _ rfl,1,1⟩,λb hb=>?_,q;have e:b=#[0,s1]:=by simpa using hb
 subst e;exact O.fpOk (ug _) (O.hok.fresh (ug _))
def pi_tup {l:Expr}{tl:TE}(U:PE X l tl):PI X tg l (Aed X.K tl):=by
 exists 2,R,I,h;refine thn (U ot s σ H _ I h) λv s1 zq=>?_;erw[zq,x,H1,O,Z,q1];erw[q1,a,e,[xs,hq],q];subst e;cases Z;erw[O.tuple hq,its,rv,p,hz];refine T4 (show s1.heap.IsTuple a its.toArray from p) ?_
 exists #[0,s1],[#[0,s1]],_,_,H1,1,O.kept (t':=s1.toks) λb o e=>ud _ e,kf a _,⟨_,uE _ rfl,1,1⟩,λb hb=>?_,q;have e:b=#[0,s1]:=by simpa using hb
 subst e;exact O.fpOk (ug _) (O.hok.fresh (ug _))
def Ba {ot:om (o6×Obj)}{σ:St}{H:Hp}{s:o8}{R:It->Hp->Prop}{E:o7->o8->Prop}{lo hi:Int}{t u v:Tok}{tk:Nat}(I:#[I])(h1: -(2^62)<=lo)(h2:lo<2^62)(h3: -(2^62)<=hi)(h4:hi<2^62)
  (q:R (Itr lo (hi-lo).toNat) H) (htk:0<tk:=by ac_rfl):Vi #[X,X] X.A (H_ (.ref #[0,s])) (PIE X ot σ tg R) E {s with heap:=s.heap.push {cls:= .type "range",data:= .fields #[.int lo t,.int hi u,.int 1 v]},toks:=tk}:=by
 refine wpAny_pyIter_range (IsRange.new ..) (small_one h1 h2 h3 h4) ?_;have O:Inv X ot σ H {s with heap:=s.heap.push {cls:= .type "range",data:= .fields #[.int lo t,.int hi u,.int 1 v]},toks:=tk}:=I.kept λb o e=>ud _ e
 refine⟨(s.heap.push {cls:= .type "range",data:= .fields #[.int lo t,.int hi u,.int 1 v]}).objs.size,[(s.heap.push {cls:= .type "range",data:= .fields #[.int lo t,.int hi u,.int 1 v]}).objs.size],_,_,H,1,
  O.kept (t':=tk) λb o e=>ud _ e,B5 _ lo (hi-lo).toNat,?_,λb U=>?_,q⟩
 ·have Z:lo+((0:Nat):Int)*1=lo:=by simp
  have e2:(((hi-lo).toNat:Nat):Int)-((0:Nat):Int)=pR lo hi 1:=by rw[rangeSize_one];split<;>omega
  show FJ _ _ (lo+((0:Nat):Int)*1) ((((hi-lo).toNat:Nat):Int)-((0:Nat):Int)) 1;rw[Z,e2];exact uE _ rfl
 ·have e:b=(s.heap.push {cls:= .type "range",data:= .fields #[.int lo t,.int hi u,.int 1 v]}).objs.size:=by simpa using U
  subst e;exact O.fpOk (ug _) (O.hok.fresh (ug _))
inductive AbW (R:(It->Hp->Prop))(vs:List V)(H1:Hp):Prop
 |mk (j:Int)(_:vs= [.int j])(_: -(2^62)<=j)(_:j<2^62)(_:R (Itr 0 j.toNat) H1)
nonrec def AcV (ta:TA):TI:=λσ H R=>ta σ H λvs H1=>AbW R vs H1
inductive AbV (R:(It->Hp->Prop))(vs:List V)(H1:Hp):Prop
 |mk (i j:Int)(_:vs= [.int i,.int j])(_:(-(2^62)<=i/\i<2^62/\ -(2^62)<=j/\j<2^62))(_:R (Itr i (j-i).toNat) H1)
nonrec def AcU (ta:TA):TI:=λσ H R=>ta σ H λvs H1=>AbV R vs H1
def yN {a:Expr}{ta:TA}{p pos:Pos}(O:Gl X "range")(hm:X.mg "range"=U_)(ha:PA X [a] ta)(U:Vm [a] X.env= [(Vh,eval a X.env)]):PI X tg (.Call (.Name "range" p) [a] [] pos) (AcV ta):=by
 exists 2,R,I,h;refine HZ (zh I O hm boot_range (vf (thn (ha pos ot s σ H _ I h) λus s1 zq=>?_) U rfl));erw[zq,vs,H1,Z,r1,q1];erw[q1,j,e,q1,q2,q];subst e;cases r1 with
 |cons r rr=>
  cases rr;erw[r,t,rfl];exact call_range_1 (Ba Z () () q1 q2 (by simpa using q))
def ou {a b:Expr}{ta:TA}{p pos:Pos}(U:Gl X "range")(hm:X.mg "range"=U_)(ha:PA X [a,b] ta)(Z:Vm [a,b] X.env= [(Vh,eval a X.env),(Vh,eval b X.env)])(O:Vm [b] X.env= [(Vh,eval b X.env)]):
  PI X tg (.Call (.Name "range" p) [a,b] [] pos) (AcU ta):=by
 exists 2,R,I,h;refine HZ (zh I U hm boot_range (vf (thn (ha pos ot s σ H _ I h) λus s1 zq=>?_) (by rw[Z,O]) (by rw[O];rfl)));erw[zq,vs,H1,I1,r1,q1]
 erw[q1,i,j,e,[q1,q2,q3,q4],q];subst e;cases r1 with
 |cons r rr=>
  cases rr with
  |cons r' rr=>
   cases rr;erw[r,t,rfl];erw[r',t',rfl];exact call_range_2 (Ba I1 q1 q2 q3 q4 q)
nonrec def Adu (wi:TI)(g:TG)(tb:TS):TS:=λD σ H=>wi σ H λJ H1=>∃W:Nat->Nat->St->Hp->Prop,(∃m,W 0 m σ H1)/\∀i m σ H,W i m σ H->
 (J.stop i H/\D.nx σ H)∨(J.go i H/\∃N:St->Hp->Prop,(∀σ' H',N σ' H'->∃m',m'<m/\W (i+1) m' σ' H')/\∀x H',J.yld i H x H'->g x σ H' λσ2 H2=>tb {D with nx:=N,ct:=N,bk:=D.nx} σ2 H2)
nonrec def oo (fp:om o6)(h:o9):om (o6×Obj):=fp.filterMap λb=>(h.get? b).map λo=>(b,o)
variable {fp:om o6}
def xg (O:b∈fp)(e:h.get? b=u_ o):(b,o)∈oo fp h:=List.mem_filterMap.mpr ⟨b,O,by rw[e];rfl⟩
def D9 {p:o6×Obj}(O:p∈oo fp h):p.1∈fp/\h.get? p.1=u_ p.2:=by
 erw[List.mem_filterMap.mp O,b,U,e];cases q:h.get? b with
 |none=>rw[q] at e;cases e
 |some o=>
  rw[q] at e;have Z:(b,o)=p:=uF e;subst Z;exact[U:q]
def Inv.pinned (I:#[I])(Z:∀b∈fp,AF X ot H b)(ho:∀b∈fp,∃o,s.heap.get? b=u_ o/\∀v,o.data≠ .cell v):Inv X (ot++oo fp s.heap) σ H s:=
 I.pins_of λp hp=>(Af.mp hp).elim (λz=>I.pin p (uM _ z)) λz=>by
  erw[D9 z,O,e];erw[Z p.1 O,f0,f1,f2,_];erw[ho p.1 O,o,U,d];rw[e] at U;cases U;exact⟨e,f0,f1,f2,d⟩
def Inv.unpinned {pl:om (o6×Obj)}(I:Inv X (ot++pl) σ H s):#[I]:=I.pins_of λp O=>I.pin p (uM _ (vn _ O))
def Yh {O:Expr}{ac:om Stmt}{wi:TI}{g:TG}{tb:TS}{pos:Pos}(hp:PassesOwn #[X,X] X.A X.env X.xe)(hc:X.calm=v_)(hi:PI X tg O wi)(hg:PG X tg g)(U:PSs X ac tb)
  (hs:∀x,TM O X.env x=pure x):PS X (.For tg O ac [] pos) (Adu wi g tb):=by
 exists 2,D,I,h;refine wpAny_For (thn (hi ot s σ H _ I h) λv s1 h1=>thn h1 λam s2 h2=>?_) hs;erw[h2,it,fp,tn,J,H2,e,I2,T,ah,f2,W,[m0,w0],ae];subst e;have Z:∀{H':Hp},(∀b∈fp,H' b=U_)->∀b∈fp,AF X ot H' b:=λhn b U=>[hn b U:(f2 b U).2];refine codeAny_forLoop_any (λn s'=>∃i σ' H',Inv X ot σ' H' s'/\tn i s'.heap/\(∀b∈fp,H' b=U_)/\W i n σ' H') ?_ m0 ⟨(0),σ,H2,I2,ah,λb U=>(f2 b U).1,w0⟩;rintro n s3 ⟨i,σ3,H3,I3,af,ag,w3⟩;rcases ae i n σ3 H3 w3 with⟨stop,qn⟩|⟨go,N,hN,step⟩
 ·refine Ud hp (thn (T.done X rfl rfl rfl hc i ot s3 σ3 H3 X.xe I3 (Z ag) af stop) λr s4 zq=>?_);erw[zq,hr,I4];subst hr;exact Hn ⟨σ3,H3,I4,qn⟩
 ·refine Ud hp (thn (T.item X rfl rfl rfl hc i ot s3 σ3 H3 X.xe I3 (Z ag) af go) λr s4 zq=>?_);erw[zq,u,hr,h4];subst hr;refine Ud hp (thn h4 λ_ s5 zq=>?_);erw[zq,x,H5,I5,r5,y5,ad,ak];have al:=I5.pinned (Z ak) (T.obj _ _ ad);refine Ud hp (thn (hg _ s5 σ3 H5 x u _ al r5 (step x H5 y5)) λ_ s6 zq=>?_);erw[zq,σ6,H6,I6,q6];refine Ud hp (thn (U _ s6 σ6 H6 _ I6 q6) λf s7 q7=>?_);have aa:∀{σ7:St}{H7:Hp},Inv X (ot++oo fp s5.heap) σ7 H7 s7->N σ7 H7->∃m,m<n/\∃i σ' H',Inv X ot σ' H' s7/\tn i s7.heap/\(∀b∈fp,H' b=U_)/\W i m σ' H':=λ{σ7 H7} I7 n7=>by
   erw[hN σ7 H7 n7,m',hm,w7];exists m',hm,i+1,σ7,H7,I7.unpinned,T.keep _ _ _ ad λb U o e=>(I7.pin (b,o) (uM _ (uM _ (xg U e)))).1,λb U=>?_,w7;erw[T.obj _ _ ad b U,o,e,d];exact(I7.pin (b,o) (uM _ (uM _ (xg U e)))).2.1
  cases f with
  |next=>erw[q7,σ7,H7,I7,n7];exact aa I7 n7
  |cont=>erw[q7,σ7,H7,I7,n7];exact aa I7 n7
  |brk=>erw[q7,σ7,H7,I7,q7];exact⟨σ7,H7,I7.unpinned,q7⟩
  |ret v=>erw[q7,x7,σ7,H7,I7,r7,q7];exact⟨x7,σ7,H7,I7.unpinned,r7,q7⟩
end
def XS {K:o0}{a:o6}{xs:om V}{g:TG}{tb:TS}{D:mW}{σ:St}{H:Hp}(O:Nat->St->Hp->Prop)(h0:O 0 σ H)(hl:∀i σ H,i<=↑xs->O i σ H->SqL K H a xs)
  (hs:∀i x σ H,xs[i]? =u_ x->O i σ H->g x σ H λZ H2=>tb {D with nx:=O (i+1),ct:=O (i+1),bk:=D.nx} Z H2) (hd:∀σ H,O ↑xs σ H->D.nx σ H):
  ∃W:Nat->Nat->St->Hp->Prop,(∃m,W 0 m σ H)/\∀i m σ H,W i m σ H->
   ((Itl K a).stop i H/\D.nx σ H)∨((Itl K a).go i H/\∃N:St->Hp->Prop,(∀σ' H',N σ' H'->∃m',m'<m/\W (i+1) m' σ' H')/\∀x H',(Itl K a).yld i H x H'->g x σ H' λZ H2=>tb {D with nx:=N,ct:=N,bk:=D.nx} Z H2):=by
 exists λi m σ H=>m=↑xs-i/\i<=↑xs/\O i σ H,⟨↑xs,by simp,uG _,h0⟩
 rintro i m σ H ⟨rfl,hi,p⟩;have q:=hl i σ H hi p;by_cases U:i<↑xs
 ·refine .inr ⟨⟨xs,xs[i],q,by simp[U]⟩,O (i+1),λσ' H' p'=>⟨↑xs-(i+1),(),1,U,p'⟩,λx H' y=>?_⟩
  erw[y,e,y];subst e;exact hs i x σ _ (y xs q) p
 ·have e:i=↑xs:=by omega
  subst e;exact .inl [[xs:q:ug _]:hd σ H p]
def Ww {K:o0}{a:o6}{xs:om V}{g:TG}{tb:TS}{D:mW}{σ:St}{H:Hp}(O:Nat->St->Hp->Prop)(h0:O 0 σ H)(hl:∀i σ H,i<=↑xs->O i σ H->SqT K H a xs)
  (hs:∀i x σ H,xs[i]? =u_ x->O i σ H->g x σ H λZ H2=>tb {D with nx:=O (i+1),ct:=O (i+1),bk:=D.nx} Z H2) (hd:∀σ H,O ↑xs σ H->D.nx σ H):
  ∃W:Nat->Nat->St->Hp->Prop,(∃m,W 0 m σ H)/\∀i m σ H,W i m σ H->
   ((Itt K a).stop i H/\D.nx σ H)∨((Itt K a).go i H/\∃N:St->Hp->Prop,(∀σ' H',N σ' H'->∃m',m'<m/\W (i+1) m' σ' H')/\∀x H',(Itt K a).yld i H x H'->g x σ H' λZ H2=>tb {D with nx:=N,ct:=N,bk:=D.nx} Z H2):=by
 exists λi m σ H=>m=↑xs-i/\i<=↑xs/\O i σ H,⟨↑xs,by simp,uG _,h0⟩
 rintro i m σ H ⟨rfl,hi,p⟩;have q:=hl i σ H hi p;by_cases U:i<↑xs
 ·refine .inr ⟨⟨xs,xs[i],q,by simp[U]⟩,O (i+1),λσ' H' p'=>⟨↑xs-(i+1),(),1,U,p'⟩,λx H' y=>?_⟩
  erw[y,e,y];subst e;exact hs i x σ _ (y xs q) p
 ·have e:i=↑xs:=by omega
  subst e;exact .inl [[xs:q:ug _]:hd σ H p]
def zl {lo:Int}{n:Nat}{g:TG}{tb:TS}{D:mW}{σ:St}{H:Hp}(O:Nat->St->Hp->Prop)(h0:O 0 σ H)
  (hs:∀i σ H,i<n->O i σ H->g (.int (lo+i)) σ H λZ H2=>tb {D with nx:=O (i+1),ct:=O (i+1),bk:=D.nx} Z H2) (hd:∀σ H,O n σ H->D.nx σ H):
  ∃W:Nat->Nat->St->Hp->Prop,(∃m,W 0 m σ H)/\∀i m σ H,W i m σ H->
   ((Itr lo n).stop i H/\D.nx σ H)∨((Itr lo n).go i H/\∃N:St->Hp->Prop,(∀σ' H',N σ' H'->∃m',m'<m/\W (i+1) m' σ' H')/\∀x H',(Itr lo n).yld i H x H'->g x σ H' λZ H2=>tb {D with nx:=N,ct:=N,bk:=D.nx} Z H2):=by
 exists λi m σ H=>m=n-i/\i<=n/\O i σ H,⟨n,by simp,uG _,h0⟩
 rintro i m σ H ⟨rfl,hi,p⟩;by_cases U:i<n
 ·refine .inr ⟨U,O (i+1),λσ' H' p'=>⟨n-(i+1),(),1,U,p'⟩,λx H' y=>?_⟩
  erw[y,e,y];subst e y;exact hs i σ _ U p
 ·have e:i=n:=by omega
  subst e;exact .inl [ug _:hd σ H p]
noncomputable abbrev R2:=V->V->Hp->VK->Prop
nonrec def OpR (X:Cx)(f:o7->o7->Sem o7)(r:R2):Prop:=
 ∀(ot:om (o6×Obj)) (s:o8) (σ:St) (H:Hp) (x y:V) (v u:o7) (Q:VK),#[I]->ik x v->ik y u->r x y H Q->
  Vi #[X,X] X.A (f v u) (EP X ot σ Q) X.xe s
nonrec def UnR (X:Cx)(f:o7->Sem o7)(r:V->Hp->VK->Prop):Prop:=
 ∀(ot:om (o6×Obj)) (s:o8) (σ:St) (H:Hp) (x:V) (v:o7) (Q:VK),#[I]->ik x v->r x H Q->
  Vi #[X,X] X.A (f v) (EP X ot σ Q) X.xe s
nonrec def Yv (X:Cx)(f:o7)(r:om V->Hp->VK->Prop):Prop:=
 ∀(ot:om (o6×Obj)) (s:o8) (σ:St) (H:Hp) (xs:om V) (us:om o7) (Q:VK),#[I]->iq xs us->r xs H Q->
  Vi #[X,X] X.A (call f us) (EP X ot σ Q) X.xe s
nonrec def Aei (X:Cx)(r:V->Hp->(Bool->Hp->Prop)->Prop):Prop:=
 ∀(ot:om (o6×Obj)) (s:o8) (σ:St) (H:Hp) (x:V) (v:o7) (Q:Bool->Hp->Prop),#[I]->ik x v->r x H Q->
  Vi #[X,X] X.A (truthy v) (TP X ot σ Q) X.xe s
nonrec def tOp (r:R2)(ta tb:TE):TE:=λσ H Q=>ta σ H λx H1=>tb σ H1 λy H2=>r x y H2 Q
nonrec def tUn (r:V->Hp->VK->Prop)(ta:TE):TE:=λσ H Q=>ta σ H λx H1=>r x H1 Q
inductive rI (C:Int->Int->Prop)(g:Int->Int->V)(x:V)(y:V)(H:Hp)(Q:VK):Prop
 |mk (i:_)(j:_)(_:x= .int i)(_:y= .int j)(_:C i j)(_:Q (g i j) H)
inductive rI0 (g:Int->Int->V)(x:V)(y:V)(H:Hp)(Q:VK):Prop
 |mk (i:_)(j:_)(_:x= .int i)(_:y= .int j)(_:Q (g i j) H)
inductive rU (g:Int->V)(x:V)(H:Hp)(Q:VK):Prop
 |mk (i:_)(_:x= .int i)(_:Q (g i) H)
section
variable {X:Cx}{a b c:Expr}{ta tb tc:TE}{pos:Pos}
def Adc (ha:PE X a ta)(O:PE X b tb){ot:om (o6×Obj)}{s:o8}{σ:St}{H:Hp}{R:V->V->Hp->Prop}(I:#[I])
  (h:ta σ H λx H1=>tb σ H1 λy H2=>R x y H2) {Q:o7->o8->Prop}{f:o7->o7->Sem o7}
  (U:∀v u s2 x y H2,Inv X ot σ H2 s2->ik x v->ik y u->R x y H2->Vi #[X,X] X.A (f v u) Q X.xe s2):
  Vi #[X,X] X.A (eval a X.env) (λv Z=>Vi #[X,X] X.A (eval b X.env) (λu s₂=>Vi #[X,X] X.A (f v u) Q X.xe s₂) X.xe Z) X.xe s:=by
 refine thn (ha ot s σ H _ I h) λv s1 zq=>?_;erw[zq,x,H1,I1,r1,q1];refine thn (O ot s1 σ H1 _ I1 q1) λu s2 zq=>?_;erw[zq,y,H2,I2,r2,q2];exact U v u s2 x y H2 I2 r1 r2 q2
def qS {O:GX}{r:R2}(U:OpR X (VQ O) r)(ha:PE X a ta)(Z:PE X b tb):PE X (.BinOp a O b pos) (tOp r ta tb):=by
 exists 2,Q,I,h;exact wpAny_BinOp (Adc ha Z I h λv u s2 x y H2 I2 rx ry q=>U ot s2 σ H2 x y v u Q I2 rx ry q)
def AaD {O:UnaryOp}{r:V->Hp->VK->Prop}(U:UnR X (unaryOp O) r)(ha:PE X a ta):PE X (.UnaryOp O a pos) (tUn r ta):=by
 exists 2,Q,I,h;exact UnaryOp_ (thn (ha ot s σ H _ I h) λv s1 ⟨x,H1,Z,r1,q1⟩=>U ot s1 σ H1 x v Q Z r1 q1)
def opI {f:o7->o7->Sem o7}{C:Int->Int->Prop}{g:Int->Int->Int}
  (rule:∀(i j:Int) (t u:Tok) (s:o8) (Q:o7->o8->Prop) (E:o7->o8->Prop),C i j->Q (.int (g i j) s.toks) {s with toks:=s.toks+1}->Vi #[X,X] X.A (f (.int i t) (.int j u)) Q E s):
  OpR X f (rI C λi j=> .int (g i j)):=by
 exists 2,x,y,v,u,Q,I,O,U,h;erw[h,i,j,rfl,rfl,Z,q];erw[O,t,rfl];erw[U,t',rfl];exact rule i j t t' s _ _ Z ⟨.int (g i j),H,I.tok _,⟨0⟩,q⟩
def AdD {f:o7->o7->Sem o7}{g:Int->Int->Int}
  (rule:∀(i j:Int) (t u:Tok) (s:o8) (Q:o7->o8->Prop) (E:o7->o8->Prop),Q (.int (g i j) s.toks) {s with toks:=s.toks+1}->Vi #[X,X] X.A (f (.int i t) (.int j u)) Q E s):
  OpR X f (rI0 λi j=> .int (g i j)):=by
 exists 2,x,y,v,u,Q,I,O,U,h;erw[h,i,j,rfl,rfl,q];erw[O,t,rfl];erw[U,t',rfl];exact rule i j t t' s _ _ ⟨.int (g i j),H,I.tok _,⟨0⟩,q⟩
def Ab3 {f:o7->o7->Sem o7}{g:Int->Int->Bool}
  (rule:∀(i j:Int) (t u:Tok) (s:o8) (Q:o7->o8->Prop) (E:o7->o8->Prop),Q (.bool (g i j)) s->Vi #[X,X] X.A (f (.int i t) (.int j u)) Q E s):
  OpR X f (rI0 λi j=> .bl (g i j)):=by
 exists 2,x,y,v,u,Q,I,O,U,h;erw[h,i,j,rfl,rfl,q];erw[O,t,rfl];erw[U,t',rfl];exact rule i j t t' s _ _ ⟨.bl (g i j),H,I,1,q⟩
nonrec def Aem (i j:Int):Prop:=0<j/\j<1073741824
nonrec def Ael (i j:Int):Prop:=0<=j/\j<=1000000/\i.natAbs<2^64
nonrec def Ab8 (i j:Int):Prop:=(-(2^64)<i/\i<2^64)∨(-(2^64)<j/\j<2^64)
def Ab8.ok {i j:Int}(h:Ab8 i j):IntMulOk i j:=by
 rcases h with⟨h1,h2⟩|⟨h1,h2⟩
 ·exact .of_left (Rj h1 h2)
 ·exact .of_right (Rj h1 h2)
def yf:OpR X (VQ .Add) (rI0 λi j=> .int (i+j)):=AdD λ_ _ _ _ _ _ _ q=>add_int q
def DE:OpR X (VQ .Sub) (rI0 λi j=> .int (i-j)):=AdD λ_ _ _ _ _ _ _ q=>sub_int q
def oC:OpR X (VQ .Mult) (rI Ab8 λi j=> .int (i*j)):=opI λ_ _ _ _ _ _ _ O q=>mul_int q O.ok
def zy:OpR X (VQ .FloorDiv) (rI Aem λi j=> .int (i/j)):=opI λi j _ _ _ _ _ O q=>by
 have h1:(0:Int)<j:=O.1;have h2:j<1073741824:=O.2;exact floordiv_int () (by rwa[Int.fdiv_eq_ediv_of_nonneg i ()]) (.inl (PyProof.noPylong_small ()))
def yS:OpR X (VQ .Mod) (rI (λ_ j=>0<j) λi j=> .int (i%j)):=opI λi j _ _ _ _ _ O q=>by
 have h1:(0:Int)<j:=O;exact mod_int' () (by rwa[Int.fmod_eq_emod_of_nonneg i ()])
def AaK:OpR X (VQ .Pow) (rI Ael λi j=> .int (i^j.toNat)):=opI λ_ _ _ _ _ _ _ O q=>pow_int_small O.1 O.2.1 O.2.2 q
def unI {f:o7->Sem o7}{g:Int->Int}
  (rule:∀(i:Int) (t:Tok) (s:o8) (Q:o7->o8->Prop) (E:o7->o8->Prop),Q (.int (g i) s.toks) {s with toks:=s.toks+1}->Vi #[X,X] X.A (f (.int i t)) Q E s):
  UnR X f (rU λi=> .int (g i)):=by
 exists 2,x,v,Q,I,O,h;erw[h,i,rfl,q];erw[O,t,rfl];exact rule i t s _ _ ⟨.int (g i),H,I.tok _,⟨0⟩,q⟩
def Mo:UnR X (unaryOp .USub) (rU λi=> .int (-i)):=unI λ_ _ _ _ _ q=>neg_int q
nonrec def Adx:V->V->Bool
 | .non,.non=>v_| .non,.int _=>v_| .int _,.non=>v_| .non,.bl _=>v_| .bl _,.non=>v_| .non,.str _=>v_| .str _,.non=>v_
 | .int _,.int _=>v_| .bl _,.bl _=>v_| .str _,.str _=>v_| .byt _,.byt _=>v_
 | .int _,.str _=>v_| .str _,.int _=>v_| .bl _,.str _=>v_| .str _,.bl _=>v_
 |_,_=>Vh
nonrec def rEq:R2:=λx y H Q=>Adx x y=v_/\Q (.bl (decide (x=y))) H
nonrec def rNe:R2:=λx y H Q=>Adx x y=v_/\Q (.bl (!decide (x=y))) H
def Ib {i j:Int}:decide (V.int i=V.int j)=(i==j):=by
 rw[vC];simp
def Nj {i j:Bool}:decide (V.bl i=V.bl j)=(i==j):=by
 rw[vC];simp
def Ia {i j:Str}:decide (V.str i=V.str j)=(i==j):=by
 rw[vC];simp
def Ic {i j:Array UInt8}:decide (V.byt i=V.byt j)=(i.toList==j.toList):=by
 rw[vC];cases i;cases j;simp
variable {Q:VK}
def Qq {k O:Bool}(I:#[I])(q:Q (.bl k) H)(e:k=O):EP X ot σ Q (.bool O) s:=by
 subst e;exact⟨.bl k,H,I,1,q⟩
def Qk:OpR X (Vt .Eq) rEq:=by
 exists 2,x,y,v,u,Q,I,Z,O,h;erw[h,U,q];cases x with
 |non=>
  cases Z;cases y with
  |non=>cases O;exact PySem.EqNone.eq_none_none (Qq I q (by simp))
  |bl j=>cases O;exact PySem.EqNone.eq_none_bool (Qq I q (by simp))
  |int j=>erw[O,t',rfl];exact PySem.EqNone.eq_none_int (Qq I q (by simp))
  |str j=>erw[O,t',rfl];exact PySem.EqNone.eq_none_str (Qq I q (by simp))
  |_=>exact Aa (show Vh=v_ from U) ua
 |bl i=>
  cases Z;cases y with
  |non=>cases O;exact PySem.EqNone.eq_bool_none (Qq I q (by simp))
  |bl j=>cases O;exact eq_bool (Qq I q Nj)
  |str j=>erw[O,t',rfl];exact PySem.EqMixed.eq_bool_str (Qq I q (by simp))
  |_=>exact Aa (show Vh=v_ from U) ua
 |int i=>
  erw[Z,t,rfl];cases y with
  |non=>cases O;exact PySem.EqNone.eq_int_none (Qq I q (by simp))
  |int j=>erw[O,t',rfl];exact eq_int (Qq I q Ib)
  |str j=>erw[O,t',rfl];exact PySem.EqMixed.eq_int_str (Qq I q (by simp))
  |_=>exact Aa (show Vh=v_ from U) ua
 |str i=>
  erw[Z,t,rfl];cases y with
  |non=>cases O;exact PySem.EqNone.eq_str_none (Qq I q (by simp))
  |bl j=>cases O;exact PySem.EqMixed.eq_str_bool (Qq I q (by simp))
  |int j=>erw[O,t',rfl];exact PySem.EqMixed.eq_str_int (Qq I q (by simp))
  |str j=>erw[O,t',rfl];exact eq_str (Qq I q Ia)
  |_=>exact Aa (show Vh=v_ from U) ua
 |byt i=>
  erw[Z,t,rfl];cases y with
  |byt j=>erw[O,t',rfl];exact PySem.W.eq_bytes (Qq I q Ic)
  |_=>exact Aa (show Vh=v_ from U) ua
 |_=>cases y<;>exact Aa (show Vh=v_ from U) ua
def OR:OpR X (Vt .NotEq) rNe:=by
 exists 2,x,y,v,u,Q,I,Z,O,h;erw[h,U,q];cases x with
 |non=>
  cases Z;cases y with
  |non=>cases O;exact PySem.EqNone.ne_none_none (Qq I q (by simp))
  |bl j=>cases O;exact PySem.EqNone.ne_none_bool (Qq I q (by simp))
  |int j=>erw[O,t',rfl];exact PySem.EqNone.ne_none_int (Qq I q (by simp))
  |str j=>erw[O,t',rfl];exact PySem.EqNone.ne_none_str (Qq I q (by simp))
  |_=>exact Aa (show Vh=v_ from U) ua
 |bl i=>
  cases Z;cases y with
  |non=>cases O;exact PySem.EqNone.ne_bool_none (Qq I q (by simp))
  |bl j=>cases O;exact ne_bool (Qq I q (Ab not Nj))
  |str j=>erw[O,t',rfl];exact PySem.EqMixed.ne_bool_str (Qq I q (by simp))
  |_=>exact Aa (show Vh=v_ from U) ua
 |int i=>
  erw[Z,t,rfl];cases y with
  |non=>cases O;exact PySem.EqNone.ne_int_none (Qq I q (by simp))
  |int j=>erw[O,t',rfl];exact ne_int (Qq I q (Ab not Ib))
  |str j=>erw[O,t',rfl];exact PySem.EqMixed.ne_int_str (Qq I q (by simp))
  |_=>exact Aa (show Vh=v_ from U) ua
 |str i=>
  erw[Z,t,rfl];cases y with
  |non=>cases O;exact PySem.EqNone.ne_str_none (Qq I q (by simp))
  |bl j=>cases O;exact PySem.EqMixed.ne_str_bool (Qq I q (by simp))
  |int j=>erw[O,t',rfl];exact PySem.EqMixed.ne_str_int (Qq I q (by simp))
  |str j=>erw[O,t',rfl];exact ne_str (Qq I q (Ab not Ia))
  |_=>exact Aa (show Vh=v_ from U) ua
 |byt i=>
  erw[Z,t,rfl];cases y with
  |byt j=>erw[O,t',rfl];exact PySem.W.ne_bytes (Qq I q (Ab not Ic))
  |_=>exact Aa (show Vh=v_ from U) ua
 |_=>cases y<;>exact Aa (show Vh=v_ from U) ua
def Cj:OpR X (Vt .Lt) (rI0 λi j=> .bl (decide (i<j))):=Ab3 λ_ _ _ _ _ _ _ q=>lt_int q
def DH:OpR X (Vt .LtE) (rI0 λi j=> .bl (decide (i<=j))):=Ab3 λ_ _ _ _ _ _ _ q=>le_int q
def oE:OpR X (Vt .Gt) (rI0 λi j=> .bl (decide (j<i))):=Ab3 λ_ _ _ _ _ _ _ q=>gt_int q
def AcI:OpR X (Vt .GtE) (rI0 λi j=> .bl (decide (j<=i))):=Ab3 λ_ _ _ _ _ _ _ q=>ge_int q
def DG:OpR X (Vt .Lt) (λx y H Q=>∃i j,x= .str i/\y= .str j/\Q (.bl (decide (i.cps.toList<j.cps.toList))) H):=by
 exists 2,x,y,v,u,Q,I,O,U,h;erw[h,i,j,rfl,rfl,q];erw[O,t,rfl];erw[U,t',rfl];exact lt_str (Qq I q rfl)
def DI:OpR X (Vt .In) (λx y H Q=>∃i j,x= .str i/\y= .str j/\Q (.bl (!(G_ j i 0 ↑j 1).isEmpty)) H):=by
 exists 2,x,y,v,u,Q,I,O,U,h;erw[h,i,j,rfl,rfl,q];erw[O,t,rfl];erw[U,t',rfl];exact in_str (Qq I q rfl)
def YA:OpR X (Vt .Is) (λx y H Q=>y= .non/\Q (.bl (decide (x= .non))) H):=by
 exists 2,x,y,v,u,Q,I,O,U,h;erw[h,rfl,q];cases U;refine is_none_gen (Qq I q ?_);cases x<;>first
  |(cases O;rfl)
  |(erw[O,t,rfl];rfl)
def sZ:OpR X (Vt .IsNot) (λx y H Q=>y= .non/\Q (.bl (!decide (x= .non))) H):=by
 exists 2,x,y,v,u,Q,I,O,U,h;erw[h,rfl,q];cases U;refine isnot_none_gen (Qq I q ?_);cases x<;>first
  |(cases O;rfl)
  |(erw[O,t,rfl];rfl)
def qE (b:Expr){O:GD}(h:O≠ .In:=by decide)(h2:O≠ .NotIn:=by decide):GK O b=false:=by
 have U:(O==CmpOp.In)=false:=by cases O<;>first|rfl|exact Aa rfl h
 have Z:(O==CmpOp.NotIn)=false:=by cases O<;>first|rfl|exact Aa rfl h2
 cases b<;>simp[GK,U,Z]
def YZ {O:GD}{r:R2}(U:OpR X (Vt O) r)(ha:PE X a ta)(Z:PE X b tb)(hm:GK O b=Vh):PE X (.Compare a [O] [b] pos) (tOp r ta tb):=by
 exists 2,Q,I,h;exact RZ (Adc ha Z I h λv u s2 x y H2 I2 rx ry q=>U ot s2 σ H2 x y v u Q I2 rx ry q) hm
inductive AbO (Q:(Bool->Hp->Prop))(x:V)(H':Hp):Prop
 |mk (k:_)(_:x= .bl k)(_:Q k H')
nonrec def S6 (t:TE):TT:=λσ H Q=>t σ H λx H'=>AbO Q x H'
def qt {O:GD}{r:R2}(U:OpR X (Vt O) r)(ha:PE X a ta)(Z:PE X b tb)(hm:GK O b=Vh):PT X (.Compare a [O] [b] pos) (S6 (tOp r ta tb)):=by
 exists 2,Q,I,h;refine r_ (thn (ha ot s σ H _ I h) λv s1 ⟨x,H1,I1,r1,q1⟩=>thn (Z ot s1 σ H1 _ I1 q1) λu s2 ⟨y,H2,I2,r2,q2⟩=>
  thn (U ot s2 σ H2 x y v u _ I2 r1 r2 q2) λc s3 ⟨z,H3,I3,r3,k,e,q3⟩=>?_) hm
 subst e;cases r3;exact vz [H3:I3:q3]
nonrec def Aad (r r':R2)(ta tb tc:TE):TE:=λσ H Q=>ta σ H λx H1=>tb σ H1 λy H2=>r x y H2 λz H3=>∃k,z= .bl k/\
 (if k=v_ then tc σ H3 λw' H4=>r' y w' H4 Q else Q (.bl Vh) H3)
def Bc {U O:GD}{r r':R2}(ho:OpR X (Vt U) r)(Z:OpR X (Vt O) r')(ha:PE X a ta)(hb:PE X b tb)(hc:PE X c tc)
  (hm:lastMarks [U,O] [b,c]=Vh):PT X (.Compare a [U,O] [b,c] pos) (S6 (Aad r r' ta tb tc)):=by
 exists 2,Q,I,h;refine isTrue_chain (thn (ha ot s σ H _ I h) λv s1 ⟨x,H1,I1,r1,q1⟩=>test_link (thn (hb ot s1 σ H1 _ I1 q1) λu s2 ⟨y,H2,I2,r2,q2⟩=>
  thn (ho ot s2 σ H2 x y v u _ I2 r1 r2 q2) λd s3 ⟨z,H3,I3,r3,k,e,q3⟩=>?_)) hm
 subst e;cases r3;refine vz ?_;cases k with
 |false=>
  erw[q3,k',e',q'];cases e';exact ite_ff [H3:I3:q']
 |true=>
  refine ite_tt (test_last (thn (hc ot s3 σ H3 _ I3 q3) λw' s4 ⟨z',H4,I4,r4,q4⟩=>thn (Z ot s4 σ H4 y z' u w' _ I4 r2 r4 q4) λd' s5 zq=>?_));erw[zq,z2,H5,I5,r5,k2,e2,q5];subst e2;cases r5;exact vz [H5:I5:q5]
nonrec def AdI (K:o0)(x:V)(H:Hp)(k:Bool):Prop:=
 match x with
 | .non=>k=Vh
 | .bl b=>k=b
 | .int i=>k=(i !=0)
 | .str y=>↑y<=Vl/\k=((↑y:Int) !=0)
 | .byt y=>y.size<=Vl/\k=((y.size:Int) !=0)
 | .ref p=>(∃xs,SqL K H p xs/\k= !xs.isEmpty)∨(∃xs,SqT K H p xs/\k= !xs.isEmpty)∨∃kvs,H p=u_ (.dK kvs)/\k= !kvs.isEmpty
 |_=>False
def Cq {κ:Type}{kvs:om (κ×V)}{vs:om (κ×o7)}(r:KV kvs vs):(!vs.isEmpty)= !kvs.isEmpty:=by
 cases r<;>rfl
variable {its:om o7}
def ki (r:iq xs its):(!its.toArray.isEmpty)= !xs.isEmpty:=by
 cases r<;>simp
def ZH:(Vl:Nat)<2^63:=by rw[uw];decide
def S1:Aei X (λx H Q=>∃k,AdI X.K x H k/\Q k H):=by
 exists 2,x,v,Q,I,Z,h;erw[h,k,e,q];have hl:=ZH;have hs:Vl=16777216:=uw;cases x with
 |non=>
  cases Z;have O:k=false:=e;subst O;exact truthy_none [H:I:q]
 |bl b=>
  cases Z;have O:k=b:=e;subst O;exact vz [H:I:q]
 |int i=>
  erw[Z,t,rfl];have O:k=(i !=0):=e;subst O;exact PySem.P.truthy_int [H:I:q]
 |str y=>
  erw[Z,t,rfl];obtain⟨hy,O⟩:↑y<=Vl/\k=((↑y:Int) !=0):=e;subst O;exact PySem.P.truthy_str () [H:I.tok _:q]
 |byt y=>
  erw[Z,t,rfl];obtain⟨hy,O⟩:y.size<=Vl/\k=((y.size:Int) !=0):=e;subst O;exact PySem.W.truthy_bytes () [H:I.tok _:q]
 |ref p=>
  cases Z;have O:(∃xs,SqL X.K H p xs/\k= !xs.isEmpty)∨(∃xs,SqT X.K H p xs/\k= !xs.isEmpty)∨∃kvs,H p=u_ (.dK kvs)/\k= !kvs.isEmpty:=e;rcases O with⟨xs,hx,O⟩|⟨xs,hx,O⟩|⟨kvs,hx,O⟩
  ·subst O;erw[I.list hx,its,r,pl,hz];have U:=↑r;exact wpAny_truthy_list pl.isList (by simp![ui];omega) ⟨H,I.tok _,by rwa[ki r]⟩
  ·subst O;erw[I.tuple hx,its,r,pl,hz];have U:=↑r;exact truthy_tuple pl (by simp![ui];omega) ⟨H,I.tok _,by rwa[ki r]⟩
  ·subst O;obtain⟨hz,hS,vs,r,m⟩:↑kvs<=Vl/\(p==VF)=Vh/\∃vs,KV kvs vs/\s.heap.DictOf (Qu X.prog X.w) p vs:=I.hok p _ hx;have U:↑kvs=↑vs:=Paired.length r;exact wpAny_truthy_dict hS m () ⟨H,I.tok _,by rwa[Cq r]⟩
 |_=>exact(show False from e).elim
def Bb (ha:PE X a ta)(U:∀O,isTrue a X.env O=(do let v<-O;Hi a.pos;Gj [v] (truthy v))):
  PT X a (λσ H Q=>ta σ H λx H'=>∃k,AdI X.K x H' k/\Q k H'):=by
 exists 2,Q,I,h;exact Fv (thn (ha ot s σ H _ I h) λv s1 ⟨x,H1,Z,r1,q1⟩=>S1 ot s1 σ H1 x v Q Z r1 q1) (U _)
def Qb:OpR X (VQ .Add) (λx y H Q=>∃i j,x= .str i/\y= .str j/\↑i+↑j<=Vl/\Q (.str (i++j)) H):=by
 exists 2,x,y,v,u,Q,I,O,U,h;erw[h,i,j,rfl,rfl,Z,q];erw[O,t,rfl];erw[U,t',rfl];exact uX (n:=1) I.tk (add_str (λt' tk htk=>⟨.str (i++j),H,I.tok _,⟨0⟩,q⟩) Z)
def jQ {x:V}(r:iq [x] us):∃u,us= [u]/\ik x u:=by
 cases r with
 |cons O U=>cases U;exact[0:O]
def CF {x:V}(r:iq [x,y] us):∃u O,us= [u,O]/\ik x u/\ik y O:=by
 cases r with
 |cons U Z=>
  cases Z with
  |cons r3 r4=>cases r4;exact⟨_,0,U,r3⟩
def BS:Yv X (.builtin "abs") (λxs H Q=>∃i,xs= [.int i]/\Q (.int (if i<0 then-i else i)) H):=by
 exists 2,xs,us,Q,I,r,h;erw[h,i,rfl,q];erw[jQ r,u,rfl,t,rfl];exact uX (n:=1) I.tk (call_abs_int λu tk htk=>⟨.int (if i<0 then-i else i),H,I.tok _,⟨0⟩,q⟩)
def Io (U:X.calm=v_):Yv X (.builtin "max") (λxs H Q=>∃i j,xs= [.int i,.int j]/\Q (.int (if j>i then j else i)) H):=by
 exists 2,xs,us,Q,I,r,h;erw[h,i,j,rfl,q];erw[CF r,u,Z,rfl,[t,rfl],[t',rfl]];refine uX (n:=1) I.tk (max_two_ints (I.ok.hd U) λh' tk k htk=>⟨_,H,I.kept k,?_,q⟩);by_cases O:j>i
 ·rw[A6 O,A6 O];exact⟨0⟩
 ·rw[A4 O,A4 O];exact⟨0⟩
def Im (U:X.calm=v_):Yv X (.builtin "min") (λxs H Q=>∃i j,xs= [.int i,.int j]/\Q (.int (if j<i then j else i)) H):=by
 exists 2,xs,us,Q,I,r,h;erw[h,i,j,rfl,q];erw[CF r,u,Z,rfl,[t,rfl],[t',rfl]];refine uX (n:=1) I.tk (min_two_ints (I.ok.hd U) λh' tk k htk=>⟨_,H,I.kept k,?_,q⟩);by_cases O:j<i
 ·rw[A6 O,A6 O];exact⟨0⟩
 ·rw[A4 O,A4 O];exact⟨0⟩
def Iu:Yv X (.type "int") (λxs H Q=>(∃i,xs= [.int i]/\Q (.int i) H)∨∃k,xs= [.bl k]/\Q (.int (if k then 1 else 0)) H):=by
 exists 2,xs,us,Q,I,r,h;rcases h with⟨i,rfl,q⟩|⟨k,rfl,q⟩
 ·erw[jQ r,u,rfl,t,rfl];exact call_int_int ⟨.int i,H,I,⟨0⟩,q⟩
 ·erw[jQ r,u,rfl,O];cases O;exact call_int_bool ⟨.int (if k then 1 else 0),H,I.tok _,⟨0⟩,q⟩
def Yi:Yv X (.type "str") (λxs H Q=>∃i,xs= [.int i]/\i.natAbs.log2<1920/\Q (.str (Vs i)) H):=by
 exists 2,xs,us,Q,I,r,h;erw[h,i,rfl,O,q];erw[jQ r,u,rfl,t,rfl];exact PySem.P.str_of_int O ⟨.str _,H,I.tok _,⟨0⟩,q⟩
def Md:Yv X (.builtin "ord") (λxs H Q=>∃x,xs= [.str x]/\↑x=1/\Q (.int (x.cps.getD 0 0:Nat)) H):=by
 exists 2,xs,us,Q,I,r,h;erw[h,x,rfl,O,q];erw[jQ r,u,rfl,t,rfl];exact ord_of_one O ⟨.int _,H,I.tok _,⟨0⟩,q⟩
nonrec def Aek (K:o0)(x:V)(H:Hp)(n:Nat):Prop:=
 match x with
 | .str y=>↑y<=Vl/\n=↑y
 | .byt y=>y.size<=Vl/\n=y.size
 | .ref p=>(∃xs,SqL K H p xs/\n=↑xs)∨∃xs,SqT K H p xs/\n=↑xs
 |_=>False
def KU:Yv X (.builtin "len") (λxs H Q=>∃x n,xs= [x]/\Aek X.K x H n/\Q (.int n) H):=by
 exists 2,xs,us,Q,I,r,h;erw[h,x,n,rfl,e,q];erw[jQ r,u,rfl,Z];have hl:=ZH;have hs:Vl=16777216:=uw;cases x with
 |str y=>
  erw[Z,t,rfl];obtain⟨hy,U⟩:↑y<=Vl/\n=↑y:=e;subst U;exact len_str () ⟨.int _,H,I.tok _,⟨0⟩,q⟩
 |byt y=>
  erw[Z,t,rfl];obtain⟨hy,U⟩:y.size<=Vl/\n=y.size:=e;subst U;exact PySem.W.len_bytes () ⟨.int _,H,I.tok _,⟨0⟩,q⟩
 |ref p=>
  cases Z;have U:(∃xs,SqL X.K H p xs/\n=↑xs)∨∃xs,SqT X.K H p xs/\n=↑xs:=e;rcases U with⟨xs,hx,U⟩|⟨xs,hx,U⟩
  ·subst U;erw[I.list hx,its,r',pl,hz];have O:=↑r';exact pw pl.isList (by simp![ui];omega) ⟨.int ↑xs,H,I.tok _,⟨_,by simp![ui];rw[O]⟩,q⟩
  ·subst U;erw[I.tuple hx,its,r',pl,hz];have O:=↑r';exact len_tuple pl (by simp![ui];omega) ⟨.int ↑xs,H,I.tok _,⟨_,by simp![ui];rw[O]⟩,q⟩
 |_=>exact(show False from e).elim
end
structure SL (h:o9)(x dx C:o6)(mA:Str->oq o7):Prop where
 obj:h.get? x=u_ (PySem.W.instObj C dx)
 ns:h.Ns1 dx mA
 ne:dx≠x
variable {dx:o6}
def El {mA:Str->oq o7}(n:h.Ns1 dx mA):∃od,h.get? dx=u_ od/\∀name,PySem.W.lookIn name od=u_ (mA name):=by
 erw[n,o,es,ep,U,hd,Z,_,hm];exists o,U,λname=>?_;have e:=hm name;unfold nsFind findBy at e;rw[<-Array.find?_toList] at e;unfold PySem.W.lookIn;rw[hd];dsimp only;split
 ·rename_i y q
  rw[q] at e;exact Ab u_ e
 ·rename_i q
  rw[q] at e;have a:es.toList.any (·.refKey)=false:=by
   rw[Fb];intro y hy;erw[Z y (Array.mem_toList_iff.mp hy),z,t,O];simp[rJ,O]
  have a':¬es.toList.any (·.refKey)=true:=by rw[a];exact ua
  rw[A4 a'];exact Ab u_ e
variable {C:o6}
def SL.look {x:o6}{mA:Str->oq o7}(I:SL h x dx C mA):∃od,PySem.W.InstAt h x (PySem.W.instObj C dx) C (u_ od)/\∀name,PySem.W.lookIn name od=u_ (mA name):=
 let⟨od,ho,hl⟩:=El I.ns
 [od:⟨I.obj,1,1,ho⟩:hl]
section
variable {prog:og}{w:oh}{A:oj}{E:o7->o8->Prop}{s:o8}{K:o0}{x dx C f:o6}{mA:Str->oq o7}{name:Str}{v:o7}
def Sh {O:Bool}{Q:o7->o8->Prop}(X:K.In s.heap)(I:SL s.heap x dx C mA)(Z:PySem.W.plainGet K C name=v_)(hh:PySem.W.hasDictIn K C=v_)
  (ha:PySem.W.findIn K (.ref C) name=u_ U_) (hv:mA name=u_ v) (U:PySem.W.handedIn v=v_) (h:Q v {s with toks:=s.toks+1}):
  Vi #[w,w] A (TF (.ref x) name O) Q E s:=by
 erw[I.look,od,J,hl];exact PySem.W.get_value X J (PySem.W.plainGet_of Z).1 (PySem.W.findObj_own hh ha rfl (by rw[hl,hv])) U h
def L3 {pl:Sem Bool}{Q:o7×om o7->o8->Prop}(X:K.In s.heap)(I:SL s.heap x dx C mA)(O:PySem.W.plainGet K C name=v_)
  (U:PySem.W.findIn K (.ref C) name=u_ (u_ (.ref f))) (Z:PySem.W.isFn K (.ref f)=v_) (hv:mA name=U_) (h:Q (.ref f,[.ref x]) s):
  Vi #[w,w] A (HR (.ref x) name pl) Q E s:=by
 erw[I.look,od,J,hl];exact PySem.W.method_fn X J (PySem.W.plainGet_of O).1 (PySem.W.plainGet_of O).2 U (beq_iff_eq.mp Z) (by show(PySem.W.lookIn name od).map (·.isSome)=u_ Vh;rw[hl,hv];rfl) h
def Ou {ns:om Str}{Q:Unit->o8->Prop}(X:K.In s.heap)(I:SL s.heap x dx C mA)
  (hs:PySem.W.findIn K (.ref C) "__setattr__"=u_ (u_ (.builtin "object.__setattr__"))) (hp:PySem.W.plainOver K C=v_) (ht:PySem.W.takerIn K C name=u_ U_) (hh:PySem.W.hasDictIn K C=v_)
  (hw:PySem.Within mA ns) (hsz:↑ns<=Vl)
  (h:∀h',SL h' x dx C (λy=>if y=name then u_ v else mA y)->GZ dx s.heap h'->Q GL {s with heap:=h',toks:=s.toks+2}):
  Vi #[w,w] A (setAttr (.ref x) name v) Q E s:=by
 erw[I.look,od,J,hl];refine PySem.W.set_plain X J hs (PySem.W.osa_open (s:={s with toks:=s.toks+1}) (r:=U_) X J hp ht λb=>?_)
 erw[PySem.W.any_some hh,cd,hc,Z];have hx:s.heap.get? x=u_ ⟨.ref C,u_ dx,.plain,#[]⟩:=I.obj;refine A8 (uz (A8 (A8 (wpAny_loadPart hx (A8 (PySem.W.Looks.here (s:={s with toks:=s.toks+1}) (PySem.W.looks_clsIn X hc) ?_))))))
 rw[Z];refine uz (a:=u_ dx) (A8 (uz (A8 ?_)));refine wpAny_nsSet1 (s:={s with toks:=s.toks+1}) I.ns λh' O U=>?_
 erw[O.count (PySem.Within.cons name v hw),oD,ae,af,aa,ac,ad];refine A8 (wpAny_lookBehind aa (by rw[ac];exact pastItsLine_dict (uL ad (by rw[uj];omega))) ?_)
 exact uz (h _ [(U.2 _ (UC I.ne)).trans I.obj:O:I.ne] U)
def LN {R:Ge->o8->Prop}{vs:om o7}{O:om (Str×o7)}(X:K.In s.heap)(hm:PySem.W.makesIn K C=v_)
  (hi:PySem.W.findIn K (.ref C) "__init__"=u_ (u_ (.ref f))) (U:PySem.W.typeIn K (.ref f)=u_ (.type "function"))
  (h:VR #[w,w] (A.under (.builtin "type.__call__" [.ref C::vs:O])) (.call (.ref f) [.ref (#[0,s]+1)::vs:O]) (PySem.W.InitBack (#[0,s]+1) R)
   {s with heap:=(s.heap.push PySem.W.emptyDict).push (PySem.W.instObj C #[0,s])}):
  VR #[w,w] A (.call (.ref C) [vs:O]) R s:=by
 erw[s,Z,g,d,t,os];exact PySem.W.make_core (PySem.W.makes_of X hm) (PySem.W.looks_findIn X hi) (λself=>PySem.W.bind_fn X self U) (.inl rfl) h
end
nonrec def iG (f:Str)(v:V):om (Str×V)->om (Str×V)
 | []=> [(f,v)]
 |(g,x)::r=>if g=f then(g,v)::r else(g,x)::iG f v r
def qM (f g:Str)(v:V):∀fs:om (Str×V),(iG f v fs).lookup g=if g=f then u_ v else fs.lookup g
 | []=>by
  show VJ g [(f,v)]=_;by_cases h:g=f
  ·have O:(g==f)=true:=beq_iff_eq.mpr h;simp![VJ,O,A6 h]
  ·have O:(g==f)=false:=beq_eq_false_iff_ne.mpr h;simp![VJ,O,A4 h]
 |(k,x)::r=>by
  have Z:=qM f g v r;rw[show iG f v ((k,x)::r)=(if k=f then(k,v)::r else(k,x)::iG f v r) from rfl]
  by_cases U:k=f
  ·rw[A6 U];by_cases h:g=k
   ·have O:(g==k)=true:=beq_iff_eq.mpr h;simp![VJ,O,A6 (h.trans U)]
   ·have O:(g==k)=false:=beq_eq_false_iff_ne.mpr h;simp![VJ,O,A4 (λe:g=f=>h (e.trans U.symm))]
  ·rw[A4 U];by_cases h:g=k
   ·have O:(g==k)=true:=beq_iff_eq.mpr h;simp![VJ,O,A4 (λe:g=f=>U (h.symm.trans e))]
   ·have O:(g==k)=false:=beq_eq_false_iff_ne.mpr h;simp![VJ,O];exact Z
def wj (f:Str)(v:V):∀fs:om (Str×V),f∈(iG f v fs).map (·.1)/\∀g,g∈fs.map (·.1)->g∈(iG f v fs).map (·.1)
 | []=>⟨by simp[iG],λg h=>by simp at h⟩
 |(k,x)::r=>by
  erw[wj f v r,U,Z];rw[show iG f v ((k,x)::r)=(if k=f then(k,v)::r else(k,x)::iG f v r) from rfl]
  by_cases O:k=f
  ·rw[A6 O];subst O;exact⟨by simp,λg h=>by simpa using h⟩
  ·rw[A4 O];exists ?_,λg h=>?_
   ·rw[ur];exact uc _ U
   ·rw[ur] at h⊢;rcases Ac.mp h with e|e
    ·exact Ac.mpr (.inl e)
    ·exact uc _ (Z g e)
def Wn (f:Str)(v:V):∀fs:om (Str×V),↑(iG f v fs)<=↑fs+1
 | []=>by simp[iG]
 |(k,x)::r=>by
  have U:=Wn f v r;rw[show iG f v ((k,x)::r)=(if k=f then(k,v)::r else(k,x)::iG f v r) from rfl]
  by_cases O:k=f
  ·rw[A6 O,uj,uj];omega
  ·rw[A4 O,uj,uj];omega
variable {v:V}
def nj.some_of {o:oq o7}(r:nj (u_ v) o):∃u,o=u_ u/\ik v u:=by
 cases o with
 |none=>exact(show False from r).elim
 |some u=>exact[u:1:r]
def nj.none_of {o:oq o7}(r:nj U_ o):o=none:=by
 cases o with
 |none=>rfl
 |some u=>exact(show False from r).elim
def EJ (r:ik v u):PySem.W.handedIn u=true:=by
 cases v with
 |non=>cases(show u=gS from r);rfl
 |bl b=>cases(show u=tj b from r);rfl
 |int i=>obtain⟨t,e⟩:=(show∃t,u=Gn i t from r);cases e;rfl
 |str x=>obtain⟨t,e⟩:=(show∃t,u=VI x t from r);cases e;rfl
 |byt b=>obtain⟨t,e⟩:=(show∃t,u=Rg b t from r);cases e;rfl
 |flt b=>obtain⟨t,e⟩:=(show∃t,u=Tq b t from r);cases e;rfl
 |ref a=>cases(show u=Vo a from r);rfl
 |ty n=>cases(show u=Gu n from r);rfl
section
variable {P:og}{w:oh}{H H':Hp}{h h':o9}{a C dx:o6}{fs fs':om (Str×V)}
def qaf (hok:HOk P w H h)(e:H a=u_ (.ins C dx fs)):∃mA,SL h a dx C mA/\(∀f,nj (fs.lookup f) (mA f))/\PySem.Within mA (fs.map (·.1))/\↑fs<=1000/\H dx=u_ (.own a):=by
 obtain⟨d,z,ne,ob,mA,n,r,q⟩:=(show yy P w H h a (.ins C dx fs) from hok a _ e)
 exact⟨mA,[ob:n:ne],r,q,z,d⟩
end
structure Cls (K:o0)(C:o6):Prop where
 pg:PySem.W.plainGet K C tJ=v_
 hd:PySem.W.hasDictIn K C=v_
 po:PySem.W.plainOver K C=v_
 sa:PySem.W.findIn K (.ref C) "__setattr__"=u_ (u_ (.builtin "object.__setattr__"))
def Cls.get (c:Cls K C)(f:Str):PySem.W.plainGet K C f=true:=c.pg
nonrec def QS (K:o0)(C:o6)(f:Str):Prop:=PySem.W.findIn K (.ref C) f=u_ U_
def QS.taker {f:Str}(n:QS K C f):PySem.W.takerIn K C f=u_ none:=by
 unfold PySem.W.takerIn;rw[show PySem.W.findIn K (.ref C) f=u_ U_ from n]
 rfl
structure Ab6 (K:o0)(C:o6)(m:Str)(f:o6):Prop where
 at_:PySem.W.findIn K (.ref C) m=u_ (u_ (.ref f))
 fn:PySem.W.isFn K (.ref f)=v_
 kp:PySem.W.keepIn K (.ref f)=v_
section
variable {X:Cx}{ot:om (o6×Obj)}{σ:St}{H:Hp}{s:o8}{a C dx:o6}{fs:om (Str×V)}{f:Str}{v:V}{A:oj}{E:o7->o8->Prop}
def kD {b:Bool}{Q:o7->o8->Prop}(I:#[I])(e:H a=u_ (.ins C dx fs))(c:Cls X.K C)(n:QS X.K C f)(l:fs.lookup f=u_ v)
  (h:∀u s',Inv X ot σ H s'->ik v u->Q u s'):Vi #[X,X] A (TF (.ref a) f b) Q E s:=by
 erw[qaf I.hok e,mA,O,r,_,_,_];obtain⟨u,U,ru⟩:=nj.some_of (v:=v) (o:=mA f) (by rw[<-l];exact r f)
 exact Sh I.kIn O (c.get f) c.hd n U (EJ ru) (h u _ (I.tok _) ru)
def kS {m:Str}{g:o6}{pl:Sem Bool}{Q:o7×om o7->o8->Prop}(I:#[I])(e:H a=u_ (.ins C dx fs))(c:Cls X.K C)(k:Ab6 X.K C m g)(l:fs.lookup m=U_)
  (h:Q (.ref g,[.ref a]) s):Vi #[X,X] A (HR (.ref a) m pl) Q E s:=by
 erw[qaf I.hok e,mA,O,r,_,_,_];have hn:mA m=none:=nj.none_of (by rw[<-l];exact r m)
 exact L3 I.kIn O (c.get m) k.at_ k.fn hn h
def ka {y:V}{u:o7}{Q:Unit->o8->Prop}(I:#[I])(e:H a=u_ (.ins C dx fs))(c:Cls X.K C)(n:QS X.K C f)(hl:↑fs<1000)(ry:ik y u)
  (h:∀s',Inv X ot σ (upd H a (.ins C dx (iG f y fs))) s'->Q GL s'):Vi #[X,X] A (setAttr (.ref a) f u) Q E s:=by
 erw[qaf I.hok e,mA,O,r,wi,_,Z];have hz:(fs.map (·.1)).length<=sizeLine:=by rw[u9,uw];omega
 refine Ou I.kIn O c.sa c.po n.taker c.hd wi hz λh' U sb=>h _ ?_;have hd:∃o,h'.get? dx=u_ o:=let⟨o,_,_,e',_⟩:=U.ns;[o:e'];refine I.write (x:=a) (e:=dx) (by rw[e];exact VP) (.inr Z) (λb q hb z=>(sb.2 b hb).trans z) hd ?_
 refine⟨by rwa[qm O.ne],?_,O.ne,U.obj,_,U.ns,λg=>?_,λg hg=>?_⟩
 ·have:=Wn f y fs;omega
 ·show nj ((iG f y fs).lookup g) (if g=f then u_ u else mA g)
  rw[qM];by_cases q:g=f
  ·rwa[A6 q,A6 q]
  ·rw[A4 q,A4 q];exact r g
 ·by_cases q:g=f
  ·rw[q];exact(wj f y fs).1
  ·refine(wj f y fs).2 g (wi g λz=>hg ?_);show(if g=f then u_ u else mA g)=U_
   rw[A4 q];exact z
def Inv.made (I:#[I]):Inv X ot σ (upd (upd H #[0,s] (.own (#[0,s]+1))) (#[0,s]+1) (.ins C #[0,s] []))
  {s with heap:=(s.heap.push PySem.W.emptyDict).push (PySem.W.instObj C #[0,s])}:=by
 have O:(s.heap.push PySem.W.emptyDict).get? #[0,s]=u_ PySem.W.emptyDict:=uE s.heap rfl;have U:((s.heap.push PySem.W.emptyDict).push (PySem.W.instObj C #[0,s])).get? (#[0,s]+1)=u_ (PySem.W.instObj C #[0,s]):=by
  have:=uE (s.heap.push PySem.W.emptyDict) (o:=PySem.W.instObj C #[0,s]) rfl
  rwa[vt] at this
 have Z:(s.heap.push PySem.W.emptyDict).Ns #[0,s] (λ_=>U_):=⟨PySem.W.emptyDict,#[],_,O,1,(λe he=>Aa he (by simp)),λ_=>rfl⟩
 have I1:=I.laid (a:=#[0,s]) (o:= .own (#[0,s]+1)) (h':=s.heap.push PySem.W.emptyDict) (t':=s.toks) (λb u q=>ud _ q) (ug _) [_:O];refine I1.laid (a:=#[0,s]+1) (o:= .ins C #[0,s] []) (t':=s.toks) (λb u q=>ud _ q) (rY (vt _ _)) ?_;have ne:#[0,s]≠#[0,s]+1:=uO (Tj _);refine⟨by rw[qm ne,qk],uG _,ne,U,λ_=>U_,(pX Z).at λo q=>ud _ q,λ_=>VP,λy hy=>Aa rfl hy⟩
def Sz {prog:og}{w:oh}{env:Env}{e:Expr}{f:Str}{pos:Pos}{s:o8}{Q:o7->o8->Prop}(O:GJ e f env (eval e env)=eval e env)
  (h:Vi #[w,w] A (eval e env) (λo U=>Vi #[w,w] A (TF o f v_) Q E U) E s):Vi #[w,w] A (eval (.Attribute e f pos) env) Q E s:=
 Attribute_any_ h (by rw[arm_eval_Attribute,O])
end
inductive Adj (K:PySem.W.Frag)(f:Str)(Q:VK)(x:V)(H1:Hp):Prop
 |mk (a:_)(C:_)(dx:_)(fs:_)(v:_)(_:x= .ref a)(_:H1 a=u_ (.ins C dx fs))(_:Cls K C)(_:QS K C f)(_:fs.lookup f=u_ v)(_:Q v H1)
nonrec def Acl (K:o0)(ta:TE)(f:Str):TE:=λσ H Q=>ta σ H λx H1=>Adj K f Q x H1
inductive Adl (K:PySem.W.Frag)(f:Str)(D:mW)(σ:St)(y:V)(x:V)(H2:Hp):Prop
 |mk (a:_)(C:_)(dx:_)(fs:_)(_:x= .ref a)(_:H2 a=u_ (.ins C dx fs))(_:Cls K C)(_:QS K C f)(_:↑fs<1000)(_:D.nx σ (upd H2 a (.ins C dx (iG f y fs))))
nonrec def AdY (K:o0)(ta tv:TE)(f:Str):TS:=λD σ H=>tv σ H λy H1=>ta σ H1 λx H2=>Adl K f D σ y x H2
nonrec def AdM (X:Cx)(op:GX)(rd:V->V->Hp->VK->Prop):Prop:=
 ∀(ot:om (o6×Obj)) (s:o8) (σ:St) (H:Hp) (x y:V) (u v:o7) (Q:VK),#[I]->ik x u->ik y v->rd x y H Q->Vi #[X,X] X.A (Tf op u v) (EP X ot σ Q) X.xe s
inductive Mi (K:PySem.W.Frag)(tv:TE)(rd:V->V->Hp->VK->Prop)(f:Str)(D:mW)(σ:St)(x:V)(H1:Hp):Prop
 |mk (a:_)(C:_)(dx:_)(fs:_)(v:_)(_:x= .ref a)(_:H1 a=u_ (.ins C dx fs))(_:Cls K C)(_:QS K C f)(_:fs.lookup f=u_ v)(_:tv σ H1 λy H2=>rd v y H2 λz H3=>∃dx' fs',H3 a=u_ (.ins C dx' fs')/\↑fs'<1000/\D.nx σ (upd H3 a (.ins C dx' (iG f z fs'))))
nonrec def Ow (K:o0)(ta tv:TE)(rd:V->V->Hp->VK->Prop)(f:Str):TS:=λD σ H=>ta σ H λx H1=>Mi K tv rd f D σ x H1
section
variable {X:Cx}{o e value:Expr}{f:Str}{pos pos' tpos:Pos}{ta tv:TE}
def qT (O:PE X e ta)(U:GJ e f X.env (eval e X.env)=eval e X.env):PE X (.Attribute e f pos) (Acl X.K ta f):=by
 exists 2,Q,I,h;refine Sz U (thn (O ot s σ H _ I h) λu s1 zq=>?_);erw[zq,x,H1,Z,rx,a,C,dx,fs,v,ex,ea,c,n,l,q];subst ex;obtain rfl:u=Vo a:=rx;exact kD Z ea c n l λu' s2 I2 ru=>⟨v,H1,I2,ru,q⟩
def Qi (ha:PE X o ta)(O:PE X value tv)(U:hZ value (u_ (.Attribute o f pos')) pos.line X.env=pure Vh):PS X (.Assign [.Attribute o f pos'] value pos) (AdY X.K ta tv f):=by
 exists 2,D,I,h;refine plainObj_wpAny_Assign_Attribute (thn (O ot s σ H _ I h) λu s1 ⟨y,H1,Z,ry,q⟩=>thn (ha ot s1 σ H1 _ Z q) λov s2 zq=>?_) U;erw[zq,x,H2,I2,rx,a,C,dx,fs,ex,ea,c,n,l,q2];subst ex;obtain rfl:ov=Vo a:=rx;exact ka I2 ea c n l ry λs3 I3=>⟨σ,_,I3,q2⟩
def JD {Z:GX}{rd:V->V->Hp->VK->Prop}(ha:PE X o ta)(hv:PE X value tv)(O:AdM X Z rd):PS X (.AugAssign (.Attribute o f tpos) Z value pos) (Ow X.K ta tv rd f):=by
 exists 2,D,I,h;refine wpAny_AugAssign_AttributeAny (thn (ha ot s σ H _ I h) λov s1 zq=>?_);erw[zq,x,H1,I1,rx,a,C,dx,fs,v,ex,ea,c,n,l,q];subst ex;obtain rfl:ov=Vo a:=rx;refine kD I1 ea c n l λu s2 I2 ru=>thn (hv ot s2 σ H1 _ I2 q) λw3 s3 ⟨y,H2,I3,ry,q3⟩=>thn (O ot s3 σ H2 v y u w3 _ I3 ru ry q3) λw4 s4 zq=>?_;erw[zq,z,H3,I4,rz,dx',fs',U,l',q4];exact ka I4 U c n l' rz λs5 I5=>⟨σ,_,I5,q4⟩
inductive Ad9 (x:V)(y:V)(H:Hp)(Q:VK):Prop
 |mk (i:_)(j:_)(_:x= .int i)(_:y= .int j)(_:Q (.int (i+j)) H)
def oT:AdM X .Add Ad9:=by
 rintro ot s σ H x y u v Q I O U ⟨i,j,rfl,rfl,q⟩;obtain⟨t,rfl⟩:=(show∃t,u=Gn i t from O)
 obtain⟨t',rfl⟩:=(show∃t',v=Gn j t' from U)
 exact pL ⟨.int (i+j),H,I.tok _,⟨0⟩,q⟩
end
section
variable {X:Cx}{ot:om (o6×Obj)}{σ:St}{H:Hp}{s:o8}{A:oj}{E:o7->o8->Prop}{Q:o7->o8->Prop}{c:o7}{b:Bool}
inductive BV (K:PySem.W.Frag)(H:Hp):V->Value->Prop where
 |non:BV K H .non (.type "NoneType")
 |bl (x:Bool):BV K H (.bl x) (.type "bool")
 |int (i:Int):BV K H (.int i) (.type "int")
 |str (x:Str):BV K H (.str x) (.type "str")
 |flt (x:UInt64):BV K H (.flt x) (.type "float")
 |lst {a:Addr}{xs:List V}(e:H a=u_ (.lst xs)):BV K H (.ref a) (.type "list")
 |frz {a:Addr}{o:Obj}{xs:List V}(e:H a=u_ (.frz o (.lst xs))):BV K H (.ref a) (.type "list")
 |tup {a:Addr}{xs:List V}(e:H a=u_ (.tup xs)):BV K H (.ref a) (.type "tuple")
 |dK {a:Addr}{kvs:List (Key×V)}(e:H a=u_ (.dK kvs)):BV K H (.ref a) (.type "dict")
 |dT {a:Addr}{kvs:List (List Key×V)}(e:H a=u_ (.dT kvs)):BV K H (.ref a) (.type "dict")
 |ins {a C dx:Addr}{fs:List (Str×V)}(e:H a=u_ (.ins C dx fs))(cl:Cls K C)(ha:PySem.W.findIn K (.ref C) "__class__"=u_ (u_ (.builtin "object.__class__")))
   (hn:PySem.W.specialIn K (.builtin "object.__class__") "__get__"=u_ (u_ (.builtin "getset_descriptor.__get__"))) (htk:PySem.W.takesIn K (.builtin "object.__class__")=u_ v_)
   (hm:PySem.W.mroIn K C (.type "object")=u_ v_):BV K H (.ref a) (.ref C)
def Ez {x:V}{t:o7}(I:#[I])(U:ik x u)(ty:BV X.K H x t)(e:PySem.W.kitOne X.K t c=u_ b)(h:∀tk,Q (.bool b) {s with toks:=tk}):
  Vi #[X,X] A (call (.builtin "isinstance") [u,c]) Q E s:=by
 cases ty with
 |non=>cases(show u=gS from U);exact vv PySem.W.kitx_none I.kIn VP e (λz=>nomatch z) h
 |bl y=>cases(show u=tj y from U);exact vv PySem.W.kitx_bool I.kIn VP e (λz=>nomatch z) h
 |int i=>obtain⟨t,q⟩:=(show∃t,u=Gn i t from U);cases q;exact vv PySem.W.kitx_int I.kIn VP e (λz=>nomatch z) h
 |str y=>obtain⟨t,q⟩:=(show∃t,u=VI y t from U);cases q;exact vv PySem.W.kitx_str I.kIn VP e (λz=>nomatch z) h
 |flt y=>obtain⟨t,q⟩:=(show∃t,u=Tq y t from U);cases q;exact vv PySem.W.kitx_float I.kIn VP e (λz=>nomatch z) h
 | @lst a xs ea=>
  cases(show u=Vo a from U)
  obtain⟨_,_,n,_,h1⟩:=(show yy X.prog X.w H s.heap a (.lst xs) from I.hok a _ ea)
  exact vv PySem.W.kitx_list I.kIn [_:h1:1] e (λz=>nomatch z) h
 | @frz a ob xs ea=>
  cases(show u=Vo a from U)
  obtain⟨_,_,_,n,_,h1⟩:=(show yy X.prog X.w H s.heap a (.frz ob (.lst xs)) from I.hok a _ ea)
  exact vv PySem.W.kitx_list I.kIn [_:h1:1] e (λz=>nomatch z) h
 | @tup a xs ea=>
  cases(show u=Vo a from U)
  obtain⟨_,_,_,p⟩:=(show yy X.prog X.w H s.heap a (.tup xs) from I.hok a _ ea)
  erw[p,o,h1,h2,_];exact vv PySem.W.kitx_tuple I.kIn [o:h1:h2] e (λz=>nomatch z) h
 | @dK a kvs ea=>
  cases(show u=Vo a from U)
  obtain⟨_,_,vs,_,p⟩:=(show yy X.prog X.w H s.heap a (.dK kvs) from I.hok a _ ea)
  erw[p,o,es,ep,h1,h2,_];exact vv PySem.W.kitx_dict I.kIn [o:h1:h2.1] e (λz=>nomatch z) h
 | @dT a kvs ea=>
  cases(show u=Vo a from U)
  obtain⟨_,_,xs,_,o,es,ep,h1,h2,_⟩:=(show yy X.prog X.w H s.heap a (.dT kvs) from I.hok a _ ea)
  exact vv PySem.W.kitx_dict I.kIn [o:h1:h2.1] e (λz=>nomatch z) h
 | @ins a C dx fs ea cl ha hn htk hm=>
  cases(show u=Vo a from U)
  erw[qaf I.hok ea,mA,O,_];erw[O.look,od,J,_];exact vv (PySem.W.kitx_own (cl.get _) cl.hd ha hn htk hm) I.kIn J e (λz=>nomatch z) h
end
structure mG (k:Nat)(A:oj):Prop where
 hd:A.handled=U_
 dp:A.depth+3*k+5<recursionLimit
 un:A.units+16*k+200<Vr
variable {j:Nat}
def mG.mono {k:Nat}(r:mG k A)(h:j<=k):mG j A:=⟨r.hd,by have:=r.dp;omega,by have:=r.un;omega⟩
def mG.deeper {k:Nat}(r:mG (k+1) A)(env:Env):mG k (A.deeper env):=
 ⟨r.hd,by have:=r.dp;show A.depth+1+3*k+5<_;omega,by have:=r.un;show A.units+3+16*k+200<_;omega⟩
def Co {O:om (Str×o7)}:(A.under (.builtin "type.__call__" [.ref C::us:O])).depth=A.depth+1:=by
 first|rfl|simp[Tl,Code.weight,Code.isCreation,Code.isGuard,Code.isCaller,FO,tN,guardIds]
def Cn {O:om (Str×o7)}:(A.under (.builtin "type.__call__" [.ref C::us:O])).units=A.units+1:=by
 first|rfl|simp[Tl,Code.cUnits,FO,tN]
def mG.make {k:Nat}(r:mG (k+1) A)(C:o6)(us:om o7)(O:om (Str×o7)):mG k (A.under (.builtin "type.__call__" [.ref C::us:O])):=
 ⟨r.hd,by have:=r.dp;rw[Co];omega,by have:=r.un;rw[Cn];omega⟩
def mG.depth {k:Nat}(r:mG k A):A.depth<recursionLimit:=by have:=r.dp;omega
def mG.units {k:Nat}(r:mG k A):A.units+64<cLine:=by have:=r.un;omega
nonrec def ND:TA:=λ_ H Q=>Q [] H
nonrec def IN (ta:TE)(tr:TA):TA:=λσ H Q=>ta σ H λx H1=>tr σ H1 λxs H2=>Q (x::xs) H2
section
variable {X:Cx}{e:Expr}{es:om Expr}{te:TE}{t:TA}{pos:Pos}
def qh:PA X [] ND:=λ_ _ _ _ H Q I h=>Ue ⟨[],H,I,.nil,h⟩
def qf (ha:PE X e te)(O:PA X es t)(U:Vm (e::es) X.env=(Vh,eval e X.env)::Vm es X.env:=by rfl):PA X (e::es) (IN te t):=by
 intro pos ot s σ H Q I h;rw[U];show Vi _ _ (Hl ((Vh,eval e X.env)::Vu pos (Vm es X.env))) _ _ s;refine vT (thn (ha ot s σ H _ I h) λu s1 zq=>?_);erw[zq,x,H1,Z,r1,q1];exact thn (O pos ot s1 σ H1 _ Z q1) λus s2 ⟨xs,H2,I2,r2,q2⟩=>⟨x::xs,H2,I2,.cons r1 r2,q2⟩
nonrec def AdO (t:TA):TE:=λσ H Q=>t σ H λxs H1=>↑xs<=Vl/\∀p,H1 p=U_->Q (.ref p) (upd H1 p (.tup xs))
nonrec def AdS (t:TA):TE:=λσ H Q=>t σ H λxs H1=>↑xs<=Vl/\∀p,H1 p=U_->Q (.ref p) (upd H1 p (.lst xs))
def qB {x1}(h:PA X es t):PE X (.Tuple es x1 pos) (AdO t):=by
 exists 2,Q,I,U;refine wpAny_Tuple_spliced (thn (h pos ot s σ H _ I U) λus s1 ⟨xs,H1,O,r,z,q⟩=>⟨by rwa[<-↑r],?_⟩)
 have Z:H1 #[0,s1]=none:=O.hok.fresh (ug _);exists .ref #[0,s1],upd H1 #[0,s1] (.tup xs),O.laid (t':=s1.toks) (λb u e=>ud _ e) (ug _) ?_,1,q _ Z;exact⟨z,us,r,⟨_,uE _ rfl,1,0⟩⟩
def QA (h:PA X es t):PE X (.List es pos) (AdS t):=by
 exists 2,Q,I,U;refine wpAny_List_spliced (thn (h pos ot s σ H _ I U) λus s1 ⟨xs,H1,O,r,z,q⟩=>⟨by rwa[<-↑r],?_⟩)
 have Z:H1 #[0,s1]=none:=O.hok.fresh (ug _);exists .ref #[0,s1],upd H1 #[0,s1] (.lst xs),O.laid (t':=s1.toks) (λb u e=>ud _ e) (ug _) ?_,1,q _ Z;exact⟨z,us,(0),r,uE _ rfl⟩
end
noncomputable abbrev Sp:=om V->Hp->VK->XK->Prop
noncomputable abbrev CXT:=om Env->Hp->o8->XK->o7->o8->Prop
structure ST (P:og)(w:oh)(K:o0)(mg:Str->oq o7)(base:o9)(A:oj)(outer:om Env)(s:o8)(H:Hp):Prop where
 frames:A.frames=u_ outer
 mod:Mod K mg base
 bs:∀b o,base.get? b=u_ o->s.heap.get? b=u_ o/\H b=U_
 bsz:base.objs.size<=#[0,s]
 funs:s.heap.FunFrames base outer
 frf:∀b∈frs outer,H b=U_
 hok:HOk P w H s.heap
 bare:V_ s.gens
nonrec def CE (outer:om Env)(P:og)(w:oh)(H:Hp)(s:o8)(Q:VK)(u:o7)(s':o8):Prop:=
 ∃v H',s'.os=s.os/\V_ s'.gens/\0<s'.toks/\Un (frs outer) [] H H' s.heap s'.heap/\HOk P w H' s'.heap/\ik v u/\Q v H'
nonrec def CR (CX:CXT)(outer:om Env)(P:og)(w:oh)(H:Hp)(s:o8)(Q:VK)(E:XK)(r:Ge)(s':o8):Prop:=
 match r with
 | .ok (.ret u)=>CE outer P w H s Q u s'
 | .ok _=>False
 | .error e=>CX outer H s E e s'
structure FnOk (P:og)(w:oh)(K:o0)(mg:Str->oq o7)(base:o9)(CX:CXT)(k:Nat)(f:o6)(fd:Vk)(ps:om Str)(sp:Sp):Prop where
 len:∀vs H Q E,sp vs H Q E->↑vs=↑ps
 run:∀(A:oj) (outer:om Env) (s:o8) (H:Hp) (args:Args) (us:om o7) (vs:om V) (Q:VK) (E:XK),mG k A->ST P w K mg base A outer s H->GN s fd args (ps.zip us)->iq vs us->sp vs H Q E->(0<s.toks∨∃x r,ps=x::r/\fd.scope.names.lookup x=u_ .local)->
  VR (Vz P w) A (.call (.ref f) args) (CR CX outer P w H s Q E) s
variable {mg:Str->oq o7}
def ST.make {P:og}{base:o9}{outer:om Env}(e:ST P w K mg base A outer s H)(C:o6)(us:om o7)(O:om (Str×o7)):
  ST P w K mg base (A.under (.builtin "type.__call__" [.ref C::us:O])) outer s H:=⟨by first|exact e.frames|(simpa [Tl,Code.envs,tN,pushEnvs] using e.frames),e.mod,e.bs,e.bsz,e.funs,e.frf,e.hok,e.bare⟩
section
variable {X:Cx}{ot:om (o6×Obj)}{σ:St}{H:Hp}{s s':o8}
def Inv.env0 (I:#[I]):ST X.prog X.w X.K X.mg X.base X.A X.stack s H:=
 ⟨I.ok.frames,I.ok.mod,I.bs,uL I.ok.bsz I.sz,I.stack,I.stkFree,I.hok,I.bare⟩
variable {Q:VK}
def Inv.after (I:#[I])(h:CE X.stack X.prog X.w H s Q u s'):EP X ot σ Q u s':=by
 erw[h,v,H',os,bare,htk,un,hok,r,q];erw[s',U,g,d,t,O];obtain rfl:O=s.os:=os;exact⟨v,H',I.call (h':=U) (g':=g) (d':=d) (t':=t) (ch:= []) un hok bare (λb z=>Aa z (by simp)),r,q⟩
end
nonrec def Acp (sp:Sp)(dvs:om V)(E:XK)(t:TA):TE:=λσ H Q=>t σ H λvs H1=>sp (vs++dvs) H1 Q E
inductive AbR (C:Addr)(m:Str)(sp:Sp)(dvs:List V)(E:XK)(t:TA)(σ:St)(Q:VK)(x:V)(H1:Hp):Prop
 |mk (a:_)(dx:_)(fs:_)(_:x= .ref a)(_:H1 a=u_ (.ins C dx fs))(_:fs.lookup m=U_)(_:t σ H1 λvs H2=>sp (x::(vs++dvs)) H2 Q E)
nonrec def Tm (C:o6)(m:Str)(sp:Sp)(dvs:om V)(E:XK)(ta:TE)(t:TA):TE:=λσ H Q=>ta σ H λx H1=>AbR C m sp dvs E t σ Q x H1
nonrec def Ack (C:o6)(sp:Sp)(dvs:om V)(E:XK)(t:TA):TE:=λσ H Q=>t σ H λvs H1=>∀x dx,H1 x=U_->H1 dx=U_->dx≠x->
 sp (.ref x::(vs++dvs)) (upd (upd H1 dx (.own x)) x (.ins C dx [])) (λv H2=>v= .non/\Q (.ref x) H2) E
nonrec def zG (K:o0)(fd:Vk)(ps:om Str)(ds:om o7):Prop:=
 ∀(s:o8) (us:om o7),K.In s.heap->↑(us++ds)=↑ps->GN s fd [us:[]] (ps.zip (us++ds))
def zG.all {fd:Vk}{ps:om Str}(h:∀us:om o7,↑us=↑ps->Gb fd [us:[]]=pure (ps.zip us)):zG K fd ps []:=λs us _ O=>by
 rw[vg] at O⊢;exact .of_eq (h us O)
nonrec def zq (CX:CXT)(X:Cx)(E:XK):Prop:=∀(ot:om (o6×Obj)) (σ:St) (H:Hp) (s:o8) (e:o7) (s':o8),#[I]->CX X.stack H s E e s'->X.xe e s'
section
variable {X:Cx}{CX:CXT}{k:Nat}{f C:o6}{fd:Vk}{ps:om Str}{sp:Sp}{dvs:om V}{ds:om o7}{E:XK}{x m:Str}{p pos apos:Pos}{e o:Expr}{es:om Expr}{ta:TE}{t:TA}
def AT {ot:om (o6×Obj)}{σ:St}{H:Hp}{s:o8}{Q:VK}{us:om o7}{vs:om V}(F:FnOk X.prog X.w X.K X.mg X.base CX k f fd ps sp)(Z:mG k X.A)(hb:zG X.K fd ps ds)(hd:iq dvs ds)(hx:zq CX X E)
  (I:#[I]) (r:iq vs us) (h:sp (vs++dvs) H Q E):Vi #[X,X] X.A (call (.ref f) us) (EP X ot σ Q) X.xe s:=by
 have U:iq (vs++dvs) (us++ds):=r.append hd;have hl:↑(us++ds)=↑ps:=by rw[<-↑U];exact F.len _ _ _ _ h
 refine tQ (tm (F.run X.A X.stack s H [us:[]] (us++ds) (vs++dvs) Q E Z I.env0 (hb s us I.kIn hl) U h (.inl I.tk)) λr s' O=>?_);cases r with
 |error e=>exact hx ot σ H s e s' I O
 |ok fl=>
  cases fl with
  |ret u=>exact I.after O
  |next=>exact VN O
  |brk=>exact VN O
  |cont=>exact VN O
def qy (F:FnOk X.prog X.w X.K X.mg X.base CX k f fd ps sp)(hr:mG k X.A)(hg:Gl X x)(hm:X.mg x=u_ (.ref f))(hk:PySem.W.keepIn X.K (.ref f)=v_)(hb:zG X.K fd ps ds)(hd:iq dvs ds)(hx:zq CX X E)
  (ha:PA X (e::es) t) (O:(x==("__debug__":Str))=Vh) (he:Vm (e::es) X.env=(Vh,eval e X.env)::Vm es X.env) (U:(Vu pos (Vm es X.env)).any (·.1)=Vh):
  PE X (.Call (.Name x p) (e::es) [] pos) (Acp sp dvs E t):=by
 exists 2,Q,I,h;refine U5 (KA I hg hm ?_ O);refine UY (h₀:=X.base) I.ok.mod.kin hk (thn (ha pos ot s σ H _ I h) λus s1 ⟨vs,H1,Z,r,q⟩=>[Z.kIn:?_]) he U;exact AT F hr hb hd hx Z r q
def Qw {pl:Sem Bool}(he:PE X o ta)(c:Cls X.K C)(hm:Ab6 X.K C m f)(F:FnOk X.prog X.w X.K X.mg X.base CX k f fd ps sp)(hr:mG k X.A)(hb:zG X.K fd ps ds)(hd:iq dvs ds)(hx:zq CX X E)(ha:PA X (e::es) t)
  (O:Vm (e::es) X.env=(Vh,eval e X.env)::Vm es X.env) (U:(Vu pos (Vm es X.env)).any (·.1)=Vh)
  (ht:eval (.Call (.Attribute o m apos) (e::es) [] pos) X.env=(do
   let ov<-eval o X.env
   Hi apos.atName
   let(f,first)<-Gj [ov] (HR ov m pl)
   TW pos f first (Vu pos (Vm (e::es) X.env)) (Gx pos (GE [] X.env)))):
  PE X (.Call (.Attribute o m apos) (e::es) [] pos) (Tm C m sp dvs E ta t):=by
 exists 2,Q,I,h;refine PySem.W.methodCall_KW (pl:=pl) (thn (he ot s σ H _ I h) λu s1 zq=>?_) ht;erw[zq,x,H1,Z,rx,a,dx,fs,ex,ea,l,q];subst ex;obtain rfl:u=Vo a:=rx;refine kS Z ea c hm l ?_;refine UY (first:= [.ref a]) (h₀:=X.base) I.ok.mod.kin hm.kp (thn (ha pos ot s1 σ H1 _ Z q) λus s2 ⟨vs,H2,I2,r,q2⟩=>[I2.kIn:?_]) O U;exact AT (us:= .ref a::us) (vs:= .ref a::vs) F hr hb hd hx I2 (.cons rfl r) q2
def QL {pl:Sem Bool}(U:PE X o ta)(c:Cls X.K C)(hm:Ab6 X.K C m f)(F:FnOk X.prog X.w X.K X.mg X.base CX k f fd ps sp)(Z:mG k X.A)(hb:zG X.K fd ps ds)(hd:iq dvs ds)(hx:zq CX X E)
  (ht:eval (.Call (.Attribute o m apos) [] [] pos) X.env=(do
   let ov<-eval o X.env
   Hi apos.atName
   let(f,first)<-Gj [ov] (HR ov m pl)
   TW pos f first (Vu pos (Vm [] X.env)) (Gx pos (GE [] X.env)))):
  PE X (.Call (.Attribute o m apos) [] [] pos) (Tm C m sp dvs E ta ND):=by
 exists 2,Q,I,h;refine PySem.W.methodCall_KW (pl:=pl) (thn (U ot s σ H _ I h) λu s1 zq=>?_) ht;erw[zq,x,H1,O,rx,a,dx,fs,ex,ea,l,q];subst ex;obtain rfl:u=Vo a:=rx;refine kS O ea c hm l ?_;exact PySem.W.callWith_K0 (first:= [.ref a]) O.kIn hm.kp (AT (us:= [.ref a]) (vs:= [.ref a]) F Z hb hd hx O (.cons rfl .nil) q)
structure Mk (K:o0)(C f:o6):Prop where
 makes:PySem.W.makesIn K C=v_
 init:PySem.W.findIn K (.ref C) "__init__"=u_ (u_ (.ref f))
 fn:PySem.W.isFn K (.ref f)=v_
 kp:PySem.W.keepIn K (.ref C)=v_
def Lh {ot:om (o6×Obj)}{σ:St}{H:Hp}{s:o8}{Q:VK}{us:om o7}{vs:om V}(M:Mk X.K C f)(F:FnOk X.prog X.w X.K X.mg X.base CX k f fd ps sp)(hr:mG (k+1) X.A)(hb:zG X.K fd ps ds)(hd:iq dvs ds)
  (hx:zq CX X E) (I:#[I]) (r:iq vs us)
  (h:∀x dx,H x=U_->H dx=U_->dx≠x->sp (.ref x::(vs++dvs)) (upd (upd H dx (.own x)) x (.ins C dx [])) (λv H2=>v= .non/\Q (.ref x) H2) E):
  Vi #[X,X] X.A (call (.ref C) us) (EP X ot σ Q) X.xe s:=by
 have Z:=h (#[0,s]+1) #[0,s] (I.hok.fresh (Hg _)) (I.hok.fresh (ug _)) (uO (Tj _));have U:=Inv.made (C:=C) I;have r2:iq (V.ref (#[0,s]+1)::(vs++dvs)) (Vo (#[0,s]+1)::(us++ds)):= .cons rfl (r.append hd);have hl:↑(Vo (#[0,s]+1)::us++ds)=↑ps:=by
  have e:=↑r2;rw[F.len _ _ _ _ Z] at e;exact e.symm
 refine tQ (LN (f:=f) I.kIn M.makes M.init (beq_iff_eq.mp M.fn) (tm (F.run _ X.stack _ _ [Vo (#[0,s]+1)::us:[]] (Vo (#[0,s]+1)::(us++ds)) _ _ E (hr.make C us [])
  (U.env0.make C us []) (hb _ (Vo (#[0,s]+1)::us) U.kIn hl) r2 Z (.inl U.tk)) λr s' O=>?_))
 cases r with
 |error e=>exact hx ot σ _ _ e s' U O
 |ok fl=>
  cases fl with
  |ret u=>
   erw[U.after O,v,H',I3,rv,ev,q3];subst ev;exact[rv:⟨V.ref (#[0,s]+1),H',I3,1,q3⟩]
  |next=>exact VN O
  |brk=>exact VN O
  |cont=>exact VN O
def Za (M:Mk X.K C f)(F:FnOk X.prog X.w X.K X.mg X.base CX k f fd ps sp)(hr:mG (k+1) X.A)(hg:Gl X x)(hm:X.mg x=u_ (.ref C))(hb:zG X.K fd ps ds)(hd:iq dvs ds)(hx:zq CX X E)
  (ha:PA X (e::es) t) (O:(x==("__debug__":Str))=Vh) (he:Vm (e::es) X.env=(Vh,eval e X.env)::Vm es X.env) (U:(Vu pos (Vm es X.env)).any (·.1)=Vh):
  PE X (.Call (.Name x p) (e::es) [] pos) (Ack C sp dvs E t):=by
 exists 2,Q,I,h;refine U5 (KA I hg hm ?_ O);refine UY (h₀:=X.base) I.ok.mod.kin M.kp (thn (ha pos ot s σ H _ I h) λus s1 ⟨vs,H1,Z,r,q⟩=>[Z.kIn:?_]) he U;exact Lh M F hr hb hd hx Z r q
end
structure qz (N P:om Str)(sc:VD):Prop where
 kind:sc.kind= .function
 co:sc.isCoroutine=Vh
 gen:sc.isGenerator=Vh
 nd:N.Nodup
 pre:N.take ↑P=P
 par:∀x∈P,sc.names.lookup x=u_ .local∨sc.names.lookup x=u_ .cell
 nofree:∀y∈sc.names,y.2≠ .free
def sC {kindOf:Str->oq VS}{x:Str}:∀{binds:om (Str×o7)}{m:Str->oq o7},(∀v,(x,v)∉binds)->VU kindOf binds m x=m x
 | [],_,_=>rfl
 |(n,v)::r,m,h=>by
  unfold VU;rw[sC λw O=>h w (uc _ O)];split
  ·have:x≠n:=by rintro rfl;exact h v ue
   simp[this]
  ·rfl
def sE {kindOf:Str->oq VS}{x:Str}:∀{binds:om (Str×o7)}{m:Str->oq o7},(∀v,(x,v)∉binds)->VW kindOf binds m x=m x
 | [],_,_=>rfl
 |(n,v)::r,m,h=>by
  unfold VW;rw[sE λw O=>h w (uc _ O)];split
  ·rfl
  ·have:x≠n:=by rintro rfl;exact h v ue
   simp[this]
def sD {kindOf:Str->oq VS}{x:Str}{v:o7}:∀{P:om Str}{vs:om o7}{i:Nat}{m:Str->oq o7},P.Nodup->P[i]? =u_ x->vs[i]? =u_ v->kindOf x=u_ .local->
  VU kindOf (P.zip vs) m x=u_ v
 | [],_,_,_,_,h,_,_=>by simp at h
 |_::_,[],_,_,_,_,h,_=>by simp at h
 |p::P,w::vs,0,m,nd,h1,h2,hk=>by
  simp at h1 h2;subst h1;subst h2;show VU kindOf ((p,w)::P.zip vs) m p=_;unfold VU;rw[sC λv O=>(List.nodup_cons.mp nd).1 (TY O).1,A6 hk];simp
 |p::P,w::vs,i+1,m,nd,h1,h2,hk=>by
  show VU kindOf ((p,w)::P.zip vs) m x=_;unfold VU;exact sD (i:=i) (List.nodup_cons.mp nd).2 (by simpa using h1) (by simpa using h2) hk
def sF {kindOf:Str->oq VS}{x:Str}{v:o7}:∀{P:om Str}{vs:om o7}{i:Nat}{m:Str->oq o7},P.Nodup->P[i]? =u_ x->vs[i]? =u_ v->kindOf x≠u_ .local->
  VW kindOf (P.zip vs) m x=u_ v
 | [],_,_,_,_,h,_,_=>by simp at h
 |_::_,[],_,_,_,_,h,_=>by simp at h
 |p::P,w::vs,0,m,nd,h1,h2,hk=>by
  simp at h1 h2;subst h1;subst h2;show VW kindOf ((p,w)::P.zip vs) m p=_;unfold VW;rw[sE λv O=>(List.nodup_cons.mp nd).1 (TY O).1,A4 hk];simp
 |p::P,w::vs,i+1,m,nd,h1,h2,hk=>by
  show VW kindOf ((p,w)::P.zip vs) m x=_;unfold VW;exact sF (i:=i) (List.nodup_cons.mp nd).2 (by simpa using h1) (by simpa using h2) hk
nonrec def qab (N:om Str)(vs:om V):St:=vs.map u_++rg (↑N-↑vs) U_
nonrec def cxOf (CX:CXT)(P:og)(w:oh)(K:o0)(mg:Str->oq o7)(base:o9)(N:om Str)(qual:Str)(scope:VD)(f:o6)(cd:o7)(A:oj)(outer:om Env)(s:o8)(H:Hp)(E:XK):Cx where
 prog:=P
 w:=w
 K:=K
 mg:=mg
 base:=base
 A:=A.deeper (Vp qual scope #[0,s] f cd)
 N:=N
 s₀:=s
 H₀:=H
 env:=Vp qual scope #[0,s] f cd
 outer:=outer
 stack:=Vp qual scope #[0,s] f cd::outer
 ex:= []
 calm:=v_
 fn:=λ_=>v_
 pn:= []
 xe:=λe s'=>Vi (Vz P w) (A.deeper (Vp qual scope #[0,s] f cd)) (TX (Vp qual scope #[0,s] f cd) e) (λ_ s''=>CX outer H s E e s'') (λe' s''=>CX outer H s E e' s'') s'
variable {n:Nat}{x:Str}
def BR {sc:VD}(h:sc.names.lookup x=u_ .cell):∃c,(GR n sc.names []).lookup x=u_ c:=by
 have q:=PySem.W.cellsFrom_some sc.names n [] (.inl h);exact Option.isSome_iff_exists.mp q
def EE {CX:CXT}{P:og}{w:oh}{K:o0}{mg:Str->oq o7}{base:o9}{N ps:om Str}{qual:Str}{scope:VD}{f:o6}{cd:o7}{A:oj}{outer:om Env}{s s1:o8}{H:Hp}{E:XK}{us:om o7}{vs:om V}
  (S:qz N ps scope) (hd:A.handled=U_) (O:ST P w K mg base A outer s H) (hl:↑vs=↑ps) (r:iq vs us)
  (x:h_ s #[0,s] (VU (Vp qual scope #[0,s] f cd).kindOf (ps.zip us) λ_=>U_) (GR (#[0,s]+1) scope.names []) (VW (Vp qual scope #[0,s] f cd).kindOf (ps.zip us) λ_=>U_) s1) (ac:0<s1.toks):
  Inv (cxOf CX P w K mg base N qual scope f cd A outer s H E) [] (qab N vs) H s1:=by
 have ad:↑ps<=↑N:=by have:=Ab VC S.pre;rw[vw] at this;omega
 erw[x.done,h1,tk,rfl,hk];have U:∀b:o6,b∉(cxOf CX P w K mg base N qual scope f cd A outer s H E).ex:=λb z=>Aa (show b∈([]:om o6) from z) (by simp)
 exists ⟨O.mod,S.kind,1,1,ug _,λy z c h1 h2=>?_,λy Z=>?_,λy c _ h=>?_,λ_=>hd,Around.frames_deeper O.frames,.inr [1:1],λb z=>Aa z (U b),O.bs,O.bsz,λb _ _=>U b,λb z=>Aa z (U b),O.funs,O.frf⟩,1,O.bare,Un.kept hk,[_:x.toInCall.ns:λi y v h1 h2 h3=>?_],λy c h=>[_:x.cell y c h],O.hok.fresh (ug _),λy c h=>?_,λp hp=>Aa (show p∈([]:om (o6×Obj)) from hp) (by simp),O.hok.kept hk,?_,ac
 ·exact name_of_addr x.apart (vJ h1) (vJ h2)
 ·have Z:scope.names.lookup y=u_ .cell∨scope.names.lookup y=u_ .free:=Z;rcases Z with Z|Z
  ·exact BR Z
  ·exact Aa rfl (S.nofree _ (vJ Z))
 ·exact V9 (x.above y c (vJ h))
 ·have hi:i<↑vs:=by
   unfold qab at h2;by_cases hi:i<↑vs
   ·exact hi
   ·rw[UM (by simpa using hi)] at h2
    rw[rC] at h2;split at h2<;>cases h2
  have ha:vs[i]? =u_ v:=by
   unfold qab at h2;rw[UO (by simpa using hi),uD] at h2
   cases e:vs[i]? with
   |none=>rw[e] at h2;cases h2
   |some a=>rw[e] at h2;cases h2;rfl
  erw[r.get ha,u,hu,rv];have hp:ps[i]? =u_ y:=by
   rwa[<-S.pre,List.getElem?_take_of_lt ()]
  have aa:ps.Nodup:=by rw[<-S.pre];exact S.nd.sublist (RF _ _)
  exists u,rv;rcases S.par y (uK hp) with k|k
  ·exact .inl [k:sD aa hp hu k]
  ·erw[BR (n:=#[0,s]+1) k,c,e];refine .inr ⟨.inl k,c,e,?_⟩;have q:=x.cell y c e;rw[sF aa hp hu (by show scope.names.lookup y≠_;rw[k];decide)] at q
   exact q
 ·exact O.hok.fresh (V9 (x.above y c (vJ h)))
 ·unfold qab;show _=↑N;rw[uq,u9,RY];omega
def AC {M:GQ}{A:oj}{E:o7->o8->Prop}{s₀ s:o8}{m Z:Str->oq o7}{env:Env}(f:Str×o7->PUnit->Sem (ForInStep PUnit))(hf:∀n v u,f (n,v) u=(do HV env n v;pure (.yield ⟨⟩)))(O:env.scope.kind= .function)
  (n:Str) (v:o7) (r:om (Str×o7)) (Q:PUnit->o8->Prop) (x:h_ s₀ env.locals m env.cells Z s) (hl:env.kindOf n=u_ .local)
  (aa:∀x∈r,env.kindOf x.1=u_ .local∨(env.kindOf x.1=u_ .cell/\(env.cells.lookup x.1).isSome=v_))
  (h:∀s',h_ s₀ env.locals (VU env.kindOf ((n,v)::r) m) env.cells (VW env.kindOf ((n,v)::r) Z) s'->0<s'.toks->Q ⟨⟩ s'):Vi M A (gQ ((n,v)::r) ⟨⟩ f) Q E s:=by
 rw[UD,hf];refine A8 (A8 (FB hl x.toInCall.ns (λh' ac U=>uz ?_) (by rw[O];rfl)))
 have x1:h_ s₀ env.locals (λy=>if y=n then u_ v else m y) env.cells Z {s with heap:=h',toks:=s.toks+1}:=by
  exists ⟨?_,ac,λb o e=>?_,x.toInCall.fresh⟩,λk c hc=>?_,x.apart,x.above
  ·erw[x.toInCall.same,h₁,tk,rfl];exact[h':0]
  ·have:=x.toInCall.keep b o e;exact U.extBut b o (uO (Vw (uB e) x.toInCall.fresh)) (x.toInCall.keep b o e)
  ·exact(x.cell k c hc).sameBut U (vZ (x.above k c (mem_of_lookup hc)))
 refine uX (n:=1) (rf (uG _)) (wpAny_bindParams f hf O r _ _ _ _ x1 aa λs' y h1=>h s' ?_ h1);unfold VU VW;rw[A6 hl,A6 hl];exact y
def Ee {M:GQ}{A:oj}{E:o7->o8->Prop}{s:o8}{scope:VD}{globals:o6}{binds:om (Str×o7)}{qual:Str}{func:oq o6}{O:o7}{builtins:o6}{Q:Env->o8->Prop}
  (Z:scope.kind= .function)
  (aa:∀x∈binds,scope.names.lookup x.1=u_ .local∨(scope.names.lookup x.1=u_ .cell/\((GR (#[0,s]+1) scope.names []).lookup x.1).isSome=v_))
  (htk:0<s.toks∨∃n v r,binds=(n,v)::r/\scope.names.lookup n=u_ .local)
  (hq:∀en,en=newEnv scope #[0,s] globals (GR (#[0,s]+1) scope.names []) qual func O U_ builtins->
   ∀s',h_ s en.locals (VU en.kindOf binds λ_=>U_) en.cells (VW en.kindOf binds λ_=>U_) s'->0<s'.toks->Q en s'):
  Vi M A (tK scope globals [] binds qual func O U_ builtins) Q E s:=by
 rcases htk with htk|⟨n,v,r,rfl,hl⟩
 ·exact uX (n:=1) htk (wpAny_newFunctionEnv_cells Z aa λenv he s' x h1=>hq env he s' x h1)
 ·simp![tK,tP,UZ,if_false];refine A8 (wpAny_alloc ?_);refine A8 (wpAny_layCells _ (λname kind cells=>by cases ac:kind==gY<;>simp[ac]) _ _ _ _ ?_)
  have U:=cellsFrom_ok scope.names (s.heap.push {cls:= .type "frame",data:= .dict #[]}) (#[0,s]+1) [] [λ_ _ hm=>(nomatch hm):tV] (by rw[vt];exact ug _);rw[vt] at U;rw[show({s with heap:=s.heap.push {cls:= .type "frame",data:= .dict #[]}}:o8).heap.objs.size=#[0,s]+1 from vt ..]
  exact A8 (AC (s₀:=s) (env:=newEnv scope #[0,s] globals (GR (#[0,s]+1) scope.names []) qual func O U_ builtins)
   _ (λ_ _ _=>rfl) Z n v r _
   ⟨⟨⟨_,_,by rfl⟩,(Heap.Ns.new s.heap (.type "frame")).keeps (Fm _ _),λb o e=>Fm _ _ b o (ud _ e),ug _⟩,
    λm c hc=>(U.empty m c (mem_of_lookup hc)).1,U.apart,λn c hm=>(U.empty n c hm).2⟩
   hl (λy hy=>aa y (uc _ hy)) λs' x h1=>uz (hq _ rfl s' x h1))
def Abl {CX:CXT}{P:og}{w:oh}{K:o0}{mg:Str->oq o7}{base:o9}{k:Nat}{f:o6}{name qual:Str}{O:Arguments}{U:om Stmt}{scope:VD}{dV kV doc pm cdv ct oc:o7}{an od:oq o6}
  {osl:Array (oq o7)}{N ps:om Str}{sp:Sp} (lk:K.lookup f=u_ ⟨oc,od,.func (PySem.W.fnOf name qual O U scope dV kV doc pm an cdv ct),osl⟩) (ae:PySem.W.codeIn K cdv qual=v_) (S:qz N ps scope)
  (len:∀vs H Q E,sp vs H Q E->↑vs=↑ps)
  (Z:∀(A:oj) (outer:om Env) (s:o8) (H:Hp) (vs:om V) (Q:VK) (E:XK),mG k (A.deeper (Vp qual scope #[0,s] f cdv))->sp vs H Q E->
   ∃t,PSs (cxOf CX P w K mg base N qual scope f cdv A outer s H E) U t/\t {nx:=λ_ H'=>Q .non H',rt:=Q} (qab N vs) H):
  FnOk P w K mg base CX (k+1) f (PySem.W.fnOf name qual O U scope dV kV doc pm an cdv ct) ps sp:=by
 exists len,λA outer s H args us vs Q E hr e0 hb r ac htk=>?_;have hl:=len _ _ _ _ ac;have KX:K.In s.heap:=e0.mod.kin.keeps λb o e=>(e0.bs b o e).1;have af:s.heap.NoLimit:=e0.mod.nolimit.keeps λb o e=>(e0.bs b o e).1;have aa:∀y∈ps.zip us,scope.names.lookup y.1=u_ .local∨(scope.names.lookup y.1=u_ .cell/\((GR (#[0,s]+1) scope.names []).lookup y.1).isSome=v_):=λ⟨n,v⟩ hy=>by
  rcases S.par n (TY hy).1 with q|q
  ·exact .inl q
  ·exact .inr [q:PySem.W.cellsFrom_some _ _ _ (.inl q)]
 have ad:0<s.toks∨∃n v r,ps.zip us=(n,v)::r/\scope.names.lookup n=u_ .local:=by
  rcases htk with h|⟨y,q,e,hy⟩
  ·exact .inl h
  ·have:↑us=↑ps:=by rwa[<-↑r]
   subst e
   match us,this with
   |u::us',_=>exact .inr ⟨y,u,q.zip us',1,hy⟩
 refine codeAny_call_function hr.depth (KX _ _ lk) rfl S.co S.gen rfl (PySem.W.codeRec_of KX ae) (hb _ _ _ _ ?_);refine Ee S.kind aa ad λenv he s1 x ag=>?_;subst he;exists af.keeps x.toInCall.keep,codeAny_func ?_;erw[Z A outer s H vs Q E (hr.deeper _) ac,t,ht,hq];have I:Inv (cxOf CX P w K mg base N qual scope f cdv A outer s H E) [] (qab N vs) H s1:=EE S hr.hd e0 hl r x ag;refine vS (ht [] s1 (qab N vs) H _ I hq) (λfl s' hs=>?_) λe s' hs=>hs;have fin:∀{σ':St}{H':Hp}{v:V}{u:o7},Inv (cxOf CX P w K mg base N qual scope f cdv A outer s H E) [] σ' H' s'->ik v u->Q v H'->CE outer P w H s Q u s':=
  λ{σ' H' v u} J rv q=>⟨v,H',J.os,J.bare,J.tk,J.base,J.hok,rv,q⟩
 cases fl with
 |ret u=>
  erw[hs,v,σ',H',J,rv,q];exact fin J rv q
 |next=>
  erw[hs,σ',H',J,q];exact fin (v:=V.non) (u:=gS) J rfl q
 |brk=>
  erw[hs,_,_,_,q];exact VN q
 |cont=>
  erw[hs,_,_,_,q];exact VN q
section
variable {X:Cx}{x:Str}{p pos:Pos}{e:Expr}{es:om Expr}{t:TA}{id T:String}{r:om V->Hp->VK->Prop}
nonrec def tCB (r:om V->Hp->VK->Prop)(t:TA):TE:=λσ H Q=>t σ H λvs H1=>r vs H1 Q
def qA (Z:Yv X (.builtin id) r)(hg:Gl X x)(hm:X.mg x=U_)(hv:Gf x=u_ (.builtin id))(ha:PA X (e::es) t)(hn:x≠"__name__")(O:(x==("__debug__":Str))=Vh)
  (he:Vm (e::es) X.env=(Vh,eval e X.env)::Vm es X.env) (U:(Vu pos (Vm es X.env)).any (·.1)=Vh):PE X (.Call (.Name x p) (e::es) [] pos) (tCB r t):=by
 exists 2,Q,I,h;refine U5 (zh I hg hm hv ?_ hn O);exact p_ (thn (ha pos ot s σ H _ I h) λus s1 ⟨vs,H1,I1,r1,q1⟩=>Z ot s1 σ H1 vs us Q I1 r1 q1) he U
def qR (Z:Yv X (.type T) r)(hg:Gl X x)(hm:X.mg x=U_)(hv:Gf x=u_ (.type T))(ha:PA X (e::es) t)(hn:x≠"__name__")(O:(x==("__debug__":Str))=Vh)
  (he:Vm (e::es) X.env=(Vh,eval e X.env)::Vm es X.env) (U:(Vu pos (Vm es X.env)).any (·.1)=Vh):PE X (.Call (.Name x p) (e::es) [] pos) (tCB r t):=by
 exists 2,Q,I,h;refine U5 (zh I hg hm hv ?_ hn O);exact vf (thn (ha pos ot s σ H _ I h) λus s1 ⟨vs,H1,I1,r1,q1⟩=>Z ot s1 σ H1 vs us Q I1 r1 q1) he U
end
end L2
namespace HT
open PySem PyProof.Rows
section
variable {prog:og}{w:oh}{A:oj}{E:o7->o8->Prop}{s:o8}
def cat_tup {t b:o6}{vs ws:om o7}{Q:o7->o8->Prop}(ht:GO s.heap t vs.toArray)(hb:GO s.heap b ws.toArray)(hv:vs≠ [])
  (h1:ws= []->Q (.ref t) s) (h2:ws≠ []->Q (.ref #[0,s]) {s with heap:=s.heap.push {cls:= .type "tuple",data:= .seq (vs++ws).toArray}})
  (hsz:↑vs+↑ws<=Vl):Vi #[w,w] A (VQ .Add (.ref t) (.ref b)) Q E s:=by
 erw[id ht,[cls,dd,data,sl],ho,hc,n,hd];erw[id hb,[ae,U,ad,Z],O,aa,n2,ac];simp only at hc hd aa ac;subst hc hd aa ac;have e:vs.toArray++ws.toArray=(vs++ws).toArray:=by simp
 by_cases hw:ws= []
 ·exact T1 [_:ho:1] [_:O:1] TH tF PySem.F.slot_tuple_add V0 (UU _ _)
   (tuple_addW1 t b vs.toArray ws.toArray n n2 dd U sl Z (by simpa using hv) (by simp[hw])) [ho:O:h1 hw]
 ·refine T1 [_:ho:1] [_:O:1] TH tF PySem.F.slot_tuple_add V0 (UU _ _)
   (tuple_addW2 t b vs.toArray ws.toArray n n2 dd U sl Z (by simpa using hv) (by simpa using hw) (by rwa[ui,ui])) [ho:O:?_]
  rw[e];exact h2 hw
nonrec def sIx (n d:Nat):oq Int->Nat
 |none=>d
 |some v=>if v<0 then(v+(n:Int)).toNat else min v.toNat n
def sIx_none (n d:Nat):sIx n d U_=d:=rfl
def sIx_nat (n d k:Nat):sIx n d (u_ (k:Int))=min k n:=by
 show(if(k:Int)<0 then((k:Int)+(n:Int)).toNat else min (k:Int).toNat n)=min k n
 rw[A4 (),tL]
def Aar (n d:Nat)(hd:d<=n)(o:oq Int):sIx n d o<=n:=by
 cases o with
 |none=>exact hd
 |some v=>
  show(if v<0 then(v+(n:Int)).toNat else min v.toNat n)<=n
  by_cases O:v<0
  ·rw[A6 O];omega
  ·rw[A4 O];exact Nat.min_le_right _ _
def Ii (v:Int)(n d:Nat):(if v<0 then max (v+(n:Int)) 0 else min v (n:Int))=((sIx n d (u_ v):Nat):Int):=by
 show(if v<0 then max (v+(n:Int)) 0 else min v (n:Int))=(((if v<0 then(v+(n:Int)).toNat else min v.toNat n):Nat):Int)
 by_cases O:v<0
 ·simp![A6 O];omega
 ·simp![A4 O];omega
def Cy (lo hi:oq Int)(n:Nat):TK lo hi 1 (n:Int)=(((sIx n 0 lo:Nat):Int),((sIx n n hi:Nat):Int)):=by
 have h1:¬((1:Int)<0):=by omega
 unfold TK;simp![h1,if_false];refine Prod.ext ?_ ?_
 ·cases lo with
  |none=>rfl
  |some v=>exact Ii v n 0
 ·cases hi with
  |none=>rfl
  |some v=>exact Ii v n n
def Ch (i j:Nat):Hv (i:Int) (j:Int) 1=j-i:=by
 unfold Hv;have h1:(1:Int)>0:=by omega
 simp![h1,Vg,FX];split<;>omega
def Ke {v:o7}{o:oq Int}{Q:oq Int->o8->Prop}(p:gU v o)(h:Q o s):Vi #[w,w] A (pS v) Q E s:=by
 cases p with
 |none=>exact RH h
 |int i t=>exact slicePart_int h
def jY {sl:o6}{Z vu:o7}{lo hi:oq Int}{n:Nat}{Q:Int×Int×Nat->o8->Prop}(hs:s.heap.IsSliceOf sl Z vu .none)(pl:gU Z lo)(pu:gU vu hi)
  (h:Q (((sIx n 0 lo:Nat):Int),1,sIx n n hi-sIx n 0 lo) s):Vi #[w,w] A (rm (.ref sl) (pure (n:Int))) Q E s:=by
 erw[id hs,os,O,aa,U];unfold rm pH;refine A8 (A8 (vD O U (x:=Z) rfl (A8 (vD O U (x:=vu) rfl (A8 (vD O U (x:= .none) rfl (uz ?_)))))));refine A8 (RH ?_);show Vi _ _ (if((1:Int)==0)=v_ then _ else _) _ _ s
 rw[A4 ()]
 refine A8 (Ke pl (A8 (Ke pu (A8 (uz ?_)))));show Vi _ _ (match TK lo hi 1 (n:Int) with|(lo,hi)=>pure (lo,(1:Int),Hv lo hi 1)) _ _ s
 rw[Cy lo hi n];show Vi _ _ (pure (((sIx n 0 lo:Nat):Int),(1:Int),Hv ((sIx n 0 lo:Nat):Int) ((sIx n n hi:Nat):Int) 1)) _ _ s;rw[Ch];exact uz h
def Lm (xs:Array o7)(i k:Nat):((Vn k).filterMap λ(m:Nat)=>xs[((i:Int)+(m:Int)*1).toNat]?).toArray=((xs.toList.drop i).take k).toArray:=by
 have e:(λ(m:Nat)=>xs[((i:Int)+(m:Int)*1).toNat]?)=λm=>xs[i+m]? :=by
  funext m
  have:((i:Int)+(m:Int)*1).toNat=i+m:=by omega
  rw[this]
 rw[e];have:=pick_run xs i k;rw[List.filterMap_map] at this;have O:((λx=>xs[x]?)∘λx=>i+x)=λm=>xs[i+m]? :=rfl;rw[O] at this;rw[this]
def getItem_tuple_cut {t sl:o6}{items:Array o7}{vl vu:o7}{lo hi:oq Int}{Q:o7->o8->Prop}(U:GO s.heap t items)(hs:s.heap.IsSliceOf sl vl vu .none)(pl:gU vl lo)(pu:gU vu hi)
  (hw:¬(sIx items.size 0 lo=0/\sIx items.size items.size hi=items.size))
  (h:Q (.ref #[0,s]) {s with heap:=s.heap.push {cls:= .type "tuple",data:= .seq ((items.toList.drop (sIx items.size 0 lo)).take (sIx items.size items.size hi-sIx items.size 0 lo)).toArray}})
  (hsz:items.size<=Vl):Vi #[w,w] A (VT (.ref t) (.ref sl)) Q E s:=by
 have O:sizeOk (.seq ((items.toList.drop (sIx items.size 0 lo)).take (sIx items.size items.size hi-sIx items.size 0 lo)).toArray):=by
  show((items.toList.drop (sIx items.size 0 lo)).take (sIx items.size items.size hi-sIx items.size 0 lo)).toArray.size<=Vl;rw[ui,vw,vG,v9];omega
 have hj:sIx items.size items.size hi<=items.size:=Aar _ _ (ug _) hi;erw[id hs,os,Z,aa,ae];have ac:s.TypeIs (.ref sl) "slice":=[os:Z:aa];unfold VT
 try with_reducible refine VM ?_
 first|refine A8 (uz ?_)|skip
 refine A8 (pD U.typeIs () ?_)
 refine A8 (vE (name:=Gr "__getitem__") U.typeIs vK
  (vH vK U.typeIs RX ?_ (pc _ _)))
 show Vi _ _ (Rr (.ref t)>>=_) _ _ s;refine A8 (pB U ?_);refine A8 (Gi ac ?_);rw[A6 ()]
 refine A8 (jY hs pl pu ?_);have ad:¬((((sIx items.size 0 lo:Nat):Int)==0&&(1:Int)==1&&(sIx items.size items.size hi-sIx items.size 0 lo)==items.size)=v_):=by
  intro q;rw[uu,uu] at q;have q1:((sIx items.size 0 lo:Nat):Int)=0:=eq_of_beq q.1.1;have q2:sIx items.size items.size hi-sIx items.size 0 lo=items.size:=eq_of_beq q.2;exact hw [():()]
 show Vi _ _ (if(((sIx items.size 0 lo:Nat):Int)==0&&(1:Int)==1&&(sIx items.size items.size hi-sIx items.size 0 lo)==items.size)=v_ then _ else _) _ _ s
 rw[A4 ad,Lm]
 first
  |exact A8 (m:=HW _) (vA (uz ⟨0,uz h⟩) O)
  |exact A8 (m:=HW _) (vA (A8 (uz (uz ⟨0,uz h⟩))) O)
  |exact A8 (A8 (m:=HW _) (vA (uz (uz ⟨0,uz h⟩)) O))
  |exact A8 (A8 (m:=HW _) (vA (uz ⟨0,uz h⟩) O))
end
end HT
namespace L2
open PySem PySem.Spec PyProof.Rows
noncomputable abbrev TO:=St->Hp->(oq Int->Hp->Prop)->Prop
nonrec def PO (X:Cx)(e:oq Expr)(t:TO):Prop:=
 ∀(ot:om (o6×Obj)) (s:o8) (σ:St) (H:Hp) (Q:oq Int->Hp->Prop),#[I]->t σ H Q->
  Vi #[X,X] X.A (evalPart e X.env) (λu s'=>∃o H',Inv X ot σ H' s'/\gU u o/\Q o H') X.xe s
nonrec def NC:TO:=λ_ H Q=>Q U_ H
inductive AbQ (Q:(Option Int->Hp->Prop))(x:V)(H1:Hp):Prop
 |mk (i:_)(_:x= .int i)(_:Q (u_ i) H1)
nonrec def Acj (t:TE):TO:=λσ H Q=>t σ H λx H1=>AbQ Q x H1
def Cr {ns:om Int}:∀{us:om o7},iq (ns.map V.int) us->GB us ns:=by
 induction ns with
 |nil=>intro us r;rw[Uk] at r;cases r;exact .nil
 |cons n ns O=>
  intro us r;rw[ur] at r;cases r with
  |cons U Z=>
   erw[U,t,e];subst e;exact .cons n t (O Z)
section
variable {X:Cx}{e:Expr}{te:TE}{lo hi:oq Expr}{tl th:TO}{pos p2:Pos}
def jl:PO X U_ NC:=by
 exists 2,Q,I,h;rw[Fe];exact uz ⟨U_,H,I,.none,h⟩
def YT (h:PE X e te):PO X (u_ e) (Acj te):=by
 exists 2,Q,I,O;rw[Rk];refine thn (h ot s σ H _ I O) λu s1 zq=>?_;erw[zq,x,H1,U,Z,q1];erw[q1,i,rfl,q];erw[Z,t,rfl];exact⟨u_ i,H1,U,.int i t,q⟩
nonrec def SlR (X:Cx)(r:V->oq Int->oq Int->Hp->VK->Prop):Prop:=
 ∀(ot:om (o6×Obj)) (s:o8) (σ:St) (H:Hp) (x:V) (v vl vu:o7) (lo hi:oq Int) (sl:o6) (Q:VK),#[I]->ik x v->s.heap.IsSliceOf sl vl vu .none->gU vl lo->gU vu hi->r x lo hi H Q->
  ∃T id,GT (.type T) "__getitem__"=pure (u_ (.builtin id))/\s.TypeIs v T/\Vi #[X,X] X.A (VT v (.ref sl)) (EP X ot σ Q) X.xe s
def SlR.or {r O:V->oq Int->oq Int->Hp->VK->Prop}(h:SlR X r)(h':SlR X O):SlR X (λx lo hi H Q=>r x lo hi H Q∨O x lo hi H Q):=by
 exists 2,x,v,U,Z,lo,hi,sl,Q,I,rx,hs,pl,pu,q;rcases q with q|q
 ·exact h ot s σ H x v U Z lo hi sl Q I rx hs pl pu q
 ·exact h' ot s σ H x v U Z lo hi sl Q I rx hs pl pu q
nonrec def tSl (r:V->oq Int->oq Int->Hp->VK->Prop)(te:TE)(tl th:TO):TE:=λσ H Q=>te σ H λx H1=>tl σ H1 λl H2=>th σ H2 λu H3=>r x l u H3 Q
def Yc {r:V->oq Int->oq Int->Hp->VK->Prop}(hr:SlR X r)(he:PE X e te)(hl:PO X lo tl)(hu:PO X hi th):PE X (.Subscript e (.Slice lo hi U_ p2) pos) (tSl r te tl th):=by
 exists 2,Q,I,h;refine Hs (thn (he ot s σ H _ I h) λv s1 zq=>?_);erw[zq,x,H1,I1,r1,q1];refine Rq (thn (hl ot s1 σ H1 _ I1 q1) λU s2 ⟨l,H2,I2,pl,q2⟩=>thn (hu ot s2 σ H2 _ I2 q2) λZ O zq=>?_);erw[zq,u,H3,I3,pu,q3];rw[Fe];refine uz ?_;have I4:Inv X ot σ H3 {O with heap:=O.heap.push {cls:= .type "slice",data:= .fields #[U,Z,.none]}}:=I3.kept (t':=O.toks) λb ob q=>ud _ q
 erw[hr ot {O with heap:=O.heap.push {cls:= .type "slice",data:= .fields #[U,Z,.none]}} σ H3 x v U Z l u #[0,O] Q I4 r1 (Rl ..) pl pu q3,T,id,hT,ht,hg]
 show Vi #[X,X] X.A (Hy e (.Slice lo hi U_ p2) v (.ref #[0,O])) (EP X ot σ Q) X.xe {O with heap:=O.heap.push {cls:= .type "slice",data:= .fields #[U,Z,.none]}}
 exact HP (ops:= [.ref #[0,O],v]) ht hT hg #[w]
nonrec def sN (xs:om V)(lo hi:oq Int):om V:=(xs.drop (HT.sIx ↑xs 0 lo)).take (HT.sIx ↑xs ↑xs hi-HT.sIx ↑xs 0 lo)
def wf (xs:om V)(lo hi:oq Int):↑(sN xs lo hi)<=↑xs:=by
 unfold sN;rw[vw,vG];omega
inductive Ad1 (K:PySem.W.Frag)(x:V)(lo:Option Int)(hi:Option Int)(H:Hp)(Q:VK):Prop
 |mk (a:_)(xs:_)(_:x= .ref a)(_:SqT K H a xs)(_:¬(HT.sIx ↑xs 0 lo=0/\HT.sIx ↑xs ↑xs hi=↑xs))(_:∀p,H p=U_->Q (.ref p) (upd H p (.tup (sN xs lo hi))))
def Aam:SlR X (Ad1 X.K):=by
 exists 2,x,v,vl,vu,lo,hi,sl,Q,I,rx,hs,pl,pu,h;erw[h,a,xs,rfl,hx,hw,q];cases rx;erw[I.tuple hx,its,r,U,Z];have O:its.toArray.size=↑xs:=by rw[ui];exact r.length.symm
 exists "tuple",_,PyProof.Rows.slot_tuple_getitem.lookup,U.typeIs;refine HT.getItem_tuple_cut U hs pl pu (by rwa[O]) ?_ (by rwa[O])
 rw[O];exists .ref #[0,s],_,I.laid (t':=s.toks) (o:= .tup (sN xs lo hi)) (λb ob q=>ud _ q) (ug _) ?_,1,q _ (I.hok.fresh (ug _));exact⟨uL (wf xs lo hi) Z,_,(r.drop (HT.sIx ↑xs 0 lo)).take (HT.sIx ↑xs ↑xs hi-HT.sIx ↑xs 0 lo),hX _ _⟩
inductive AcC (K:PySem.W.Frag)(x:V)(y:V)(H:Hp)(Q:VK):Prop
 |mk (a:_)(b:_)(xs:_)(ys:_)(_:x= .ref a)(_:y= .ref b)(_:SqT K H a xs)(_:SqT K H b ys)(_:xs≠ [])(_:↑xs+↑ys<=Vl)(_:(ys= []->Q (.ref a) H))(_:(ys≠ []->∀p,H p=U_->Q (.ref p) (upd H p (.tup (xs++ys)))))
variable {xs:om V}{us:om o7}
def iq.nil_iff (r:iq xs us):us= []↔xs= []:=by
 cases r with
 |nil=>simp
 |cons _ _=>simp
def OS:OpR X (VQ .Add) (AcC X.K):=by
 exists 2,x,y,v,u,Q,I,rx,ry,h;erw[h,a,b,xs,ys,rfl,rfl,ha,hb,hx,Z,q1,q2];cases rx;cases ry;erw[I.tuple ha,its,U,p1,_];erw[I.tuple hb,aa,O,p2,_];refine HT.cat_tup p1 p2 (λz=>hx (U.nil_iff.mp z)) (λz=>⟨.ref a,H,I,1,q1 (O.nil_iff.mp z)⟩) (λz=>?_) (by rwa[<-↑U,<-↑O])
 exists .ref #[0,s],_,I.laid (t':=s.toks) (o:= .tup (xs++ys)) (λb ob q=>ud _ q) (ug _) ?_,1,q2 (λw=>z (O.nil_iff.mpr w)) _ (I.hok.fresh (ug _));exact⟨by rwa[uq],_,U.append O,hX _ _⟩
end
nonrec def ixN (n:Nat)(i:Int):oq Nat:=if 0<=i then(if i<n then u_ i.toNat else U_) else if-(n:Int)<=i then u_ (i+n).toNat else U_
nonrec def atI {α:Type}(xs:om α)(i:Int):oq α:=(ixN ↑xs i).bind λj=>xs[j]?
variable {n j:Nat}
def Aq {i:Int}(h:ixN n i=u_ j):seqIndex? i n=u_ j/\j<n/\ -(n:Int)<=i/\i<n:=by
 unfold ixN at h;by_cases h0:0<=i
 ·rw[A6 h0] at h;by_cases h1:i<n
  ·rw[A6 h1] at h;have e:i.toNat=j:=uF h;exact⟨by rw[T2 h0 h1,e],(),(),h1⟩
  ·rw[A4 h1] at h;cases h
 ·rw[A4 h0] at h;by_cases h1: -(n:Int)<=i
  ·rw[A6 h1] at h;have e:(i+n).toNat=j:=uF h;exact⟨by rw[tX () h1,e],(),h1,()⟩
  ·rw[A4 h1] at h;cases h
def KI {α:Type}{xs:om α}{i:Int}{v:α}(h:atI xs i=u_ v):∃j,seqIndex? i ↑xs=u_ j/\xs[j]? =u_ v/\j<↑xs/\ -(↑xs:Int)<=i/\i<↑xs:=by
 unfold atI at h;cases e:ixN ↑xs i with
 |none=>rw[e] at h;cases h
 |some j=>
  rw[e] at h;erw[Aq e,h1,h2,h3,h4];exact⟨j,h1,h,h2,h3,h4⟩
def Qn {α:Type}{xs:om α}{v:α}(h:xs[j]? =u_ v):atI xs (j:Int)=u_ v:=by
 have O:j<↑xs:=(Ai.mp h).1;have e:ixN ↑xs (j:Int)=u_ j:=by
  unfold ixN;rw[A6 (),A6 ()];simp
 unfold atI;rw[e];exact h
def qad {α:Type}(xs:om α)(v:α):atI (xs++ [v]) (-1)=u_ v:=by
 have O:↑(xs++ [v])=↑xs+1:=by simp
 have e:ixN ↑(xs++ [v]) (-1)=u_ ↑xs:=by
  unfold ixN;rw[O,A4 (),A6 ()]
  congr 1
  omega
 unfold atI;rw[e];show(xs++ [v])[↑xs]? =u_ v;simp
nonrec def SJ (b:Expr):Prop:=∀o i,Hh b Vh o i=HX [o,i] (VT o i)
nonrec def IxR (X:Cx)(r:R2):Prop:=
 ∀(value slice:Expr) (ot:om (o6×Obj)) (s:o8) (σ:St) (H:Hp) (x y:V) (v u:o7) (Q:VK),#[I]->ik x v->ik y u->r x y H Q->
  Hh slice Vh v u=HX [v,u] (VT v u)->Vi #[X,X] X.A (Hy value slice v u) (EP X ot σ Q) X.xe s
nonrec def MtR (X:Cx)(id:String)(r:V->om V->Hp->VK->Prop):Prop:=
 ∀(ot:om (o6×Obj)) (s:o8) (σ:St) (H:Hp) (x:V) (xs:om V) (v:o7) (us:om o7) (Q:VK),#[I]->ik x v->iq xs us->r x xs H Q->
  Vi #[X,X] X.A (call (.builtin id) (v::us)) (EP X ot σ Q) X.xe s
section
variable {X:Cx}{a b:Expr}{ta tb:TE}{pos:Pos}
def IxR.or {r O:R2}(h:IxR X r)(h':IxR X O):IxR X (λx y H Q=>r x y H Q∨O x y H Q):=by
 intro value slice ot s σ H x y v u Q I U Z q hs;rcases q with q|q
 ·exact h value slice ot s σ H x y v u Q I U Z q hs
 ·exact h' value slice ot s σ H x y v u Q I U Z q hs
def qJ {r:R2}(O:IxR X r)(ha:PE X a ta)(U:PE X b tb)(Z:SJ b):PE X (.Subscript a b pos) (tOp r ta tb):=by
 exists 2,Q,I,h;exact Hs (Adc ha U I h λv u s2 x y H2 I2 rx ry q=>O a b ot s2 σ H2 x y v u Q I2 rx ry q (Z _ _))
inductive Acz (K:PySem.W.Frag)(x:V)(y:V)(H:Hp)(Q:VK):Prop
 |mk (p:_)(xs:_)(i:_)(v:_)(_:x= .ref p)(_:y= .int i)(_:SqL K H p xs)(_:atI xs i=u_ v)(_:Q v H)
inductive OD (K:PySem.W.Frag)(x:V)(y:V)(H:Hp)(Q:VK):Prop
 |mk (p:_)(xs:_)(i:_)(v:_)(_:x= .ref p)(_:y= .int i)(_:SqT K H p xs)(_:atI xs i=u_ v)(_:Q v H)
inductive AdA (x:V)(y:V)(H:Hp)(Q:VK):Prop
 |mk (z:_)(i:_)(c:_)(_:x= .str z)(_:y= .int i)(_:↑z<=Vl)(_:atI z.cps.toList i=u_ c)(_:Q (.str ⟨#[c]⟩) H)
def QN:IxR X (Acz X.K):=by
 intro value slice ot s σ H x y v u Q I rx ry h Z;erw[h,p,xs,i,z,rfl,rfl,hq,he,q];cases rx;erw[ry,t,rfl];erw[I.list hq,its,r,pl,hz];erw[KI he,j,h1,h2,h3,h4,h5];erw[r.get h2,w,ew,O];have hl:=↑r;have hn:=ZH;have fin:EP X ot σ Q w s:=⟨z,H,I,O,q⟩;by_cases h0:0<=i
 ·have U:i.toNat=j:=by
   rw[T2 h0 h5] at h1;exact uF h1
  exact item_listR pl.isList h0 () (by rw[U];simpa using ew) fin Z
 ·have U:(i+(its.toArray.size:Int)).toNat=j:=by
   rw[tX () h4] at h1
   rw[ui,<-hl];exact uF h1
  exact RL (x:=w) pl.isList.typeIs slot_list_getitem.lookup
   (wpAny_getItem_list_neg (Q:=λr s'=>r=w/\EP X ot σ Q r s') pl.isList () (by rw[ui]<;>omega) () (by rw[U];simpa using ew) [1:fin]) Z
def qI:IxR X (OD X.K):=by
 intro value slice ot s σ H x y v u Q I U Z h hs;erw[h,p,xs,i,z,rfl,rfl,hq,he,q];cases U;erw[Z,t,rfl];erw[I.tuple hq,its,r,pl,hz];erw[KI he,j,h1,h2,h3,h4,h5];erw[r.get h2,w,ew,O];have hl:=↑r;have hn:=ZH;have fin:EP X ot σ Q w s:=⟨z,H,I,O,q⟩;exact RL (x:=w) pl.typeIs slot_tuple_getitem.lookup
  (getItem_tuple (j:=j) (Q:=λr s'=>r=w/\EP X ot σ Q r s') pl () () (by rwa[ui,<-hl]) (by simpa using ew) [1:fin]) hs
def Bz:IxR X AdA:=by
 intro value slice ot s σ H x y v u Q I O U h Z;erw[h,z,i,c,rfl,rfl,hz,he,q];erw[O,t,rfl];erw[U,t',rfl];erw[KI he,j,h1,h2,h3,h4,h5];have hl:↑z.cps.toList=↑z:=by simp[VX]
 rw[hl] at h1 h4 h5;have hn:=ZH;exact HP (vU s z t) slot_str_getitem.lookup (getItem_str (c:=c) (by
  have e1:decide (i< -(2^63:Int))=false:=ub ()
  have e2:decide (i≥2^63)=false:=ub ()
  rw[e1,e2,Bool.or_false]) (by rw[h1];simpa using h2) ⟨.str ⟨#[c]⟩,H,I.tok _,⟨0⟩,q⟩) Z
nonrec def rIx (K:o0):R2:=λx y H Q=>Acz K x y H Q∨OD K x y H Q∨AdA x y H Q
def JI:IxR X (rIx X.K):=QN.or (qI.or Bz)
def Cm (its:om o7)(n j:Nat)(u:o7):Gz (·.setIfInBounds j u) {cls:= .type "list",data:= .seq its.toArray n}={cls:= .type "list",data:= .seq (its.set j u).toArray n}:=by
 simp[Gz]
def Inv.lst {ot:om (o6×Obj)}{σ:St}{H:Hp}{s:o8}{p:o6}{xs:om V}(I:#[I])(h:H p=u_ (.lst xs)):
  ∃(its:om o7) (n:Nat),iq xs its/\s.heap.get? p=u_ {cls:= .type "list",data:= .seq its.toArray n}/\↑xs<=sizeLine:=by
 erw[I.hok p _ h,z,its,n,r,e];exact⟨its,n,r,e,z⟩
def Inv.lstUpd {ot:om (o6×Obj)}{σ:St}{H:Hp}{s:o8}{p:o6}{xs ys:om V}{its its':om o7}{n O:Nat}{f:Obj->Obj}(I:#[I])(h:H p=u_ (.lst xs))
  (Z:s.heap.get? p=u_ {cls:= .type "list",data:= .seq its.toArray n}) (U:f {cls:= .type "list",data:= .seq its.toArray n}={cls:= .type "list",data:= .seq its'.toArray O}) (r:iq ys its') (hz:↑ys<=Vl) (t:Nat) (ht:0<t:=by ac_rfl):
  Inv X ot σ (upd H p (.lst ys)) {s with heap:=s.heap.update p f,toks:=t}:=by
 have e:(s.heap.update p f).get? p=u_ {cls:= .type "list",data:= .seq its'.toArray O}:=by
  rw[HU f Z (by rw[U]<;>rfl),U]
 refine I.write (x:=p) (e:=p) (by rw[h];trivial) (.inl rfl) (λb u hb q=>(Us _ _ (UC hb)).trans q) [_:e] ?_
 exact⟨hz,its',O,r,e⟩
inductive Acw (o:V)(i:V)(v:V)(H:Hp)(Q:(Hp->Prop)):Prop
 |mk (p:_)(xs:_)(k:_)(j:_)(_:o= .ref p)(_:i= .int k)(_:H p=u_ (.lst xs))(_:ixN ↑xs k=u_ j)(_:Q (upd H p (.lst (xs.set j v))))
def AQ:AdK X Acw:=by
 exists 2,o,i,v,ov,iv,u,Q,I,ro,ri,rv,h;erw[h,p,xs,k,j,rfl,rfl,hp,hj,q];cases ro;erw[ri,t,rfl];erw[I.lst hp,its,n,r,O,hz];erw[Aq hj,h1,h2,h3,h4];have U:=↑r;have hn:=ZH;have I':Inv X ot σ (upd H p (.lst (xs.set j v))) {s with heap:=s.heap.update p (Gz (·.setIfInBounds j u))}:=
  I.lstUpd hp O (Cm its n j u) (r.set rv j) (by rwa[List.length_set]) s.toks
 by_cases h0:0<=k
 ·have Z:k.toNat=j:=by
   rw[T2 h0 h4] at h1;exact uF h1
  exact PySem.W.ki_setAt O h0 () (by rwa[ui,<-U]) (by rw[Z];exact[_:I':q])
 ·have Z:(k+(its.toArray.size:Int)).toNat=j:=by
   rw[tX () h3] at h1
   rw[ui,<-U];exact uF h1
  exact PySem.W.ki_setBack O () (by rwa[ui,<-U]) () (by rw[Z];exact[_:I':q])
def nH (lo hi:oq Int)(n:Nat):(VZ lo hi U_ n).1=((HT.sIx n 0 lo:Nat):Int)/\(VZ lo hi U_ n).2.1=((HT.sIx n n hi:Nat):Int)/\(VZ lo hi U_ n).2.2=1:=by
 exists ?_,?_,1
 ·cases lo with
  |none=>simp[VZ,HT.sIx]
  |some i=>
   simp![VZ,HT.sIx,rq,show(1:Int)>0 by decide,Vg]
   by_cases h:i<0
   ·simp![h,Vg]<;>omega
   ·simp![h,if_false]<;>omega
 ·cases hi with
  |none=>simp[VZ,HT.sIx]
  |some i=>
   simp![VZ,HT.sIx,rq,show(1:Int)>0 by decide,Vg]
   by_cases h:i<0
   ·simp![h,Vg]<;>omega
   ·simp![h,if_false]<;>omega
def Ku (its:om o7)(lo hi:oq Int):tI its.toArray lo hi U_=((its.drop (HT.sIx ↑its 0 lo)).take (HT.sIx ↑its ↑its hi-HT.sIx ↑its 0 lo)).toArray:=by
 erw[nH lo hi its.toArray.size,h1,h2,h3];unfold tI;rw[h1,h2,h3];simp![sliceRange_one,pick_run,ui]<;>rfl
inductive Ad2 (K:PySem.W.Frag)(x:V)(lo:Option Int)(hi:Option Int)(H:Hp)(Q:VK):Prop
 |mk (a:_)(xs:_)(_:x= .ref a)(_:SqL K H a xs)(_:∀p,H p=U_->Q (.ref p) (upd H p (.lst (sN xs lo hi))))
def xT:SlR X (Ad2 X.K):=by
 exists 2,x,v,vl,vu,lo,hi,sl,Q,I,Z,hs,pl,pu,h;erw[h,a,xs,rfl,hx,q];cases Z;erw[I.list hx,its,r,U,hz];have O:=↑r;exists "list",_,slot_list_getitem.lookup,U.isList.typeIs;refine rW U.isList hs pl pu .none (by simp) ?_ (by rw[ui]<;>omega)
 rw[Ku,<-O];exists .ref #[0,s],_,I.laid (t':=s.toks) (o:= .lst (sN xs lo hi)) (λb ob q=>ud _ q) (ug _) ?_,1,q _ (I.hok.fresh (ug _));exact⟨uL (wf xs lo hi) hz,_,(0),(r.drop (HT.sIx ↑xs 0 lo)).take (HT.sIx ↑xs ↑xs hi-HT.sIx ↑xs 0 lo),uE _ rfl⟩
nonrec def ZP:V->Bool
 | .non=>v_
 | .bl _=>v_
 | .int _=>v_
 | .str _=>v_
 |_=>Vh
nonrec def eqV:V->V->Bool
 | .non,.non=>v_
 | .bl a,.bl b=>a==b
 | .bl a,.int b=>(if a then 1 else 0)==b
 | .int a,.bl b=>a==(if b then 1 else 0)
 | .int a,.int b=>a==b
 | .str a,.str b=>a==b
 |_,_=>Vh
variable {A:oj}{s:o8}{y:V}{u:o7}
def Abn {x:V}{v:o7}(U:ik y u)(O:ik x v)(fy:ZP y=v_)(Z:ZP x=v_):Vv A s u v (eqV y x):=by
 cases y with
 |non=>
  cases U;cases x with
  |non=>cases O;exact UE _
  |bl b=>cases O;exact pY b
  |int b=>erw[O,t,rfl];exact RV b t
  |str b=>erw[O,t,rfl];exact rB b t
  |_=>exact Aa (show Vh=v_ from Z) ua
 |bl a=>
  cases U;cases x with
  |non=>cases O;exact pQ a
  |bl b=>cases O;exact pF a b
  |int b=>erw[O,t,rfl];exact pI a b t
  |str b=>erw[O,t,rfl];exact Pg a b t
  |_=>exact Aa (show Vh=v_ from Z) ua
 |int a=>
  erw[U,t',rfl];cases x with
  |non=>cases O;exact RP a t'
  |bl b=>cases O;exact Ph a t' b
  |int b=>erw[O,t,rfl];exact V1 a t' b t
  |str b=>erw[O,t,rfl];exact UW a t' b t
  |_=>exact Aa (show Vh=v_ from Z) ua
 |str a=>
  erw[U,t',rfl];cases x with
  |non=>cases O;exact RT a t'
  |bl b=>cases O;exact Pi a t' b
  |int b=>erw[O,t,rfl];exact UX a t' b t
  |str b=>erw[O,t,rfl];exact Ux a t' b t
  |_=>exact Aa (show Vh=v_ from Z) ua
 |_=>exact Aa (show Vh=v_ from fy) ua
nonrec def eqU (x:V)(u:o7):Bool:=match u with
 | .none=>eqV .non x
 | .bool b=>eqV (.bl b) x
 | .int i _=>eqV (.int i) x
 | .str z _=>eqV (.str z) x
 |_=>Vh
def Ng {x:V}(r:ik y u)(f:ZP y=v_):eqU x u=eqV y x:=by
 cases y with
 |non=>cases r;rfl
 |bl b=>cases r;rfl
 |int i=>erw[r,t,rfl];rfl
 |str z=>erw[r,t,rfl];rfl
 |_=>exact Aa (show Vh=v_ from f) ua
def WA {x:V}:∀{xs:om V}{us:om o7},iq xs us->xs.all ZP=v_->us.any (eqU x)=xs.any λy=>eqV y x
 |_,_,.nil,_=>rfl
 |y::xs,u::us,.cons r t,f=>by
  rw[vx,uu] at f;rw[UH,UH,Ng r f.1,WA t f.2]
def zp {A:oj}{s:o8}{x:V}{v:o7}(U:ik x v)(Z:ZP x=v_):∀{xs:om V}{us:om o7},iq xs us->xs.all ZP=v_->∀u∈us,Vv A s u v (eqU x u)
 |_,_,.nil,_=>λu O=>by cases O
 |y::xs,u::us,.cons r t,f=>λu' O=>by
  rw[vx,uu] at f;rcases Ac.mp O with rfl|O
  ·rw[Ng r f.1];exact Abn r U f.1 Z
  ·exact zp U Z t f.2 u' O
nonrec def inV (x:V)(xs:om V):Bool:=xs.any λy=>eqV y x
inductive rIn (K:PySem.W.Frag)(neg:Bool)(x:V)(y:V)(H:Hp)(Q:VK):Prop
 |mk (p:_)(xs:_)(_:y= .ref p)(_:(SqL K H p xs∨SqT K H p xs))(_:ZP x=v_)(_:xs.all ZP=v_)(_:Q (.bl (if neg then !inV x xs else inV x xs)) H)
def QU:OpR X (Vt .In) (rIn X.K Vh):=by
 exists 2,x,y,v,u,Q,I,Z,ry,h;erw[h,p,xs,rfl,O,fx,fs,q];cases ry;rcases O with O|O
 ·erw[I.list O,its,r,pl,hz];refine rA (eqU x) pl.isList (λw U=>zp Z fx r fs w (by simpa using U)) ⟨.bl _,H,I,1,?_⟩
  rw[show its.toArray.any (eqU x)=its.any (eqU x) by simp,WA r fs]
  exact q
 ·erw[I.tuple O,its,r,pl,hz];refine Ff (eqU x) pl (λw U=>zp Z fx r fs w (by simpa using U)) ⟨.bl _,H,I,1,?_⟩
  rw[show its.toArray.any (eqU x)=its.any (eqU x) by simp,WA r fs]
  exact q
def oB:OpR X (Vt .NotIn) (rIn X.K v_):=by
 exists 2,x,y,v,u,Q,I,Z,ry,h;erw[h,p,xs,rfl,O,fx,fs,q];cases ry;rcases O with O|O
 ·erw[I.list O,its,r,pl,hz];refine SeqAt.notIn_listAt (eqU x) pl.isList (λw U=>zp Z fx r fs w (by simpa using U)) ⟨.bl _,H,I,1,?_⟩
  rw[show its.toArray.any (eqU x)=its.any (eqU x) by simp,WA r fs]
  exact q
 ·erw[I.tuple O,its,r,pl,hz];refine SeqAt.notIn_tupleAt (eqU x) pl (λw U=>zp Z fx r fs w (by simpa using U)) ⟨.bl _,H,I,1,?_⟩
  rw[show its.toArray.any (eqU x)=its.any (eqU x) by simp,WA r fs]
  exact q
def oA:OpR X (Vt .NotIn) (λx y H Q=>∃i j,x= .str i/\y= .str j/\Q (.bl (!(!(G_ j i 0 ↑j 1).isEmpty))) H):=by
 exists 2,x,y,v,u,Q,I,O,U,h;erw[h,i,j,rfl,rfl,q];erw[O,t,rfl];erw[U,t',rfl];exact notIn_str ⟨.bl _,H,I,1,q⟩
def qL:Yv X (.builtin "len") (λxs H Q=>∃p ys,xs= [.ref p]/\(SqL X.K H p ys∨SqT X.K H p ys)/\Q (.int ↑ys) H):=by
 exists 2,xs,us,Q,I,r,h;erw[h,p,ys,rfl,U,q];erw[jQ r,u,rfl,rx];cases rx;have hn:=ZH;rcases U with U|U
 ·erw[I.list U,its,Z,pl,hz];have O:=↑Z;exact pw pl.isList (by simp![ui]<;>omega) ⟨.int ↑ys,H,I.tok _,⟨s.toks+1,by rw[ui,O]⟩,q⟩
 ·erw[I.tuple U,its,Z,pl,hz];have O:=↑Z;exact len_tuple pl (by simp![ui]<;>omega) ⟨.int ↑ys,H,I.tok _,⟨s.toks+1,by rw[ui,O]⟩,q⟩
def JW:Yv X (.builtin "len") (λxs H Q=>∃z,xs= [.str z]/\↑z<=Vl/\Q (.int ↑z) H):=by
 exists 2,xs,us,Q,I,r,h;erw[h,z,rfl,O,q];erw[jQ r,u,rfl,t,rfl];have hn:=ZH;exact len_str () ⟨.int ↑z,H,I.tok _,⟨0⟩,q⟩
def qP:Yv X (.type "tuple") (λxs H Q=>∃p ys,xs= [.ref p]/\((SqL X.K H p ys/\∀l,H l=U_->Q (.ref l) (upd H l (.tup ys)))∨(SqT X.K H p ys/\Q (.ref p) H))):=by
 exists 2,xs,us,Q,I,r,h;erw[h,p,ys,rfl,h];erw[jQ r,u,rfl,rx];cases rx;rcases h with⟨O,q⟩|⟨O,q⟩
 ·erw[I.list O,its,U,pl,Z];have aa:=↑U;refine call_tuple_list pl.isList (λh' kp=>?_) (by simp![ui]<;>omega)
  have I1:Inv X ot σ H {s with heap:=h'}:=I.kept (t':=s.toks) kp
  have I2:Inv X ot σ (upd H h'.objs.size (.tup ys)) {s with heap:=h'.push {cls:= .type "tuple",data:= .seq its.toArray}}:=
   I1.laid (t':=s.toks) (λb o e=>ud _ e) (ug _) (show yy X.prog X.w _ _ _ (.tup ys) from⟨Z,its,U,hX _ _⟩)
  exact⟨.ref h'.objs.size,_,I2,1,q _ (I1.hok.fresh (ug _))⟩
 ·erw[I.tuple O,its,U,pl,Z];exact call_tuple_same pl ⟨.ref p,H,I,1,q⟩
nonrec def tyV (K:o0)(T:String)(x:V)(H:Hp):Prop:=match x with
 | .str _=>T="str"
 | .int _=>T="int"
 | .ref p=>(T="list"/\∃xs,SqL K H p xs)∨(T="tuple"/\∃o,K.lookup p=u_ o/\o.cls= .type "tuple"/\o.dict=U_)∨
   (T="dict"/\((∃kvs,H p=u_ (.dK kvs))∨∃kvs,H p=u_ (.dT kvs)))∨(T="set"/\∃S n,H p=u_ (.set S n))
 |_=>False
variable {ot:om (o6×Obj)}{σ:St}{H:Hp}
def Mp {T:String}{x:V}{v:o7}(I:#[I])(r:ik x v)(ty:tyV X.K T x H):
  s.TypeIs v T/\∀a,v= .ref a->∃ob,s.heap.get? a=u_ ob/\ob.dict=none:=by
 cases x with
 |str z=>
  erw[r,t,rfl];cases(show T="str" from ty)
  exact[vU s z t:λ_ e=>nomatch e]
 |int i=>
  erw[r,t,rfl];cases(show T="int" from ty)
  exact[typeIs_int s i t:λ_ e=>nomatch e]
 |ref p=>
  cases r;rcases ty with⟨rfl,xs,Z⟩|⟨rfl,o,O,hc,hd⟩|⟨rfl,O⟩|⟨rfl,S,n,O⟩
  ·erw[I.list Z,its,_,pl,_];exists pl.isList.typeIs,λa e=>?_;cases e;erw[pl,o,n,e,c,hd,_];exact[o:e:hd]
  ·exists [o:I.kIn p o O:hc],λa e=>?_;cases e;exact[o:I.kIn _ o O:hd]
  ·have z:∃o,s.heap.get? p=u_ o/\o.ExactDict:=by
    rcases O with⟨kvs,O⟩|⟨kvs,O⟩
    ·erw[I.hok p _ O,_,_,_,_,o,_,_,e,ex,_];exact[o:e:ex]
    ·erw[I.hok p _ O,_,_,_,_,o,_,_,e,ex,_];exact[o:e:ex]
   erw[z,o,e,ex];exists [o:e:ex.1],λa U=>?_;cases U;exact[o:e:ex.2.1]
  ·erw[I.hok p _ O,o,_,_,_,e,ex,_];exists [o:e:ex.1],λa U=>?_;cases U;exact[o:e:ex.2.1]
 |_=>exact VN ty
nonrec def AdV (K:o0)(T:String)(r:V->om V->Hp->VK->Prop)(to:TE):TE:=λσ H Q=>to σ H λx H1=>tyV K T x H1/\r x [] H1 Q
nonrec def tBM (K:o0)(T:String)(r:V->om V->Hp->VK->Prop)(to:TE)(t:TA):TE:=λσ H Q=>to σ H λx H1=>tyV K T x H1/\t σ H1 λxs H2=>r x xs H2 Q
variable {o e:Expr}{es:om Expr}{to:TE}{t:TA}{name:Str}{apos cpos:Pos}{T id:String}{r:V->om V->Hp->VK->Prop}
def MJ (pa:tO T)(slot:Slot T name id)(Z:typeOf (.builtin id)=pure (.type "method_descriptor"))(hm:MtR X id r)(ho:PE X o to)
  (O:GJ o name X.env (eval o X.env)=eval o X.env) (U:(apos.endLine==cpos.line)=v_):PE X (.Call (.Attribute o name apos) [] [] cpos) (AdV X.K T r to):=by
 exists 2,Q,I,h;refine wpAny_Call_method0_late O U (thn (ho ot s σ H _ I h) λv s1 zq=>?_);erw[zq,x,H1,I1,r1,ty,q1];erw[Mp I1 r1 ty,h1,h2];exact⟨T,id,pa,slot,Z,h1,h2,U2 rfl (PySem.evalArgs_none (hm ot s1 σ H1 x [] v [] Q I1 r1 .nil q1))⟩
def Y4 (pa:tO T)(slot:Slot T name id)(ac:typeOf (.builtin id)=pure (.type "method_descriptor"))(hm:MtR X id r)(ho:PE X o to)(ha:PA X (e::es) t)
  (U:GJ o name X.env (eval o X.env)=eval o X.env:=by rfl)
  (aa:((Vu cpos (Vm (e::es) X.env)).all (λx=> !x.1)&&(Gx cpos (GE [] X.env)).all (λx=>x.1.isSome)
   &&decide (↑(e::es)+↑([]:om Gh)+(if([]:om Gh).isEmpty then 0 else 1)<30))=true:=by rfl)
  (Z:(apos.endLine==cpos.line)=true:=by rfl) (hs:Vm (e::es) X.env=(Vh,eval e X.env)::Vm es X.env:=by rfl) (O:(Vu cpos (Vm es X.env)).any (·.1)=false:=by rfl):
  PE X (.Call (.Attribute o name apos) (e::es) [] cpos) (tBM X.K T r to t):=by
 exists 2,Q,I,h;refine wpAny_Call_method_late U aa Z rfl (thn (ho ot s σ H _ I h) λv s1 zq=>?_);erw[zq,x,H1,I1,r1,ty,q1];erw[Mp I1 r1 ty,h1,h2];exists T,id,pa,slot,ac,h1,h2;have hA:=ha cpos ot s1 σ H1 _ I1 q1;rw[hs] at hA⊢;refine U2 (by show(Vh||(Vu cpos (Vm es X.env)).any (·.1))=Vh;rw[O]<;>rfl) (Uc ?_)
 exact thn hA λus s2 ⟨vs,H2,I2,r2,q2⟩=>hm ot s2 σ H2 x vs v us Q I2 r1 r2 q2
end
nonrec def MtM (X:Cx)(id:String)(r:V->om V->Hp->VK->Prop):Prop:=
 ∀(ot:om (o6×Obj)) (s:o8) (σ:St) (H:Hp) (x:V) (xs:om V) (v:o7) (us:om o7) (Q:VK),#[I]->ik x v->iq xs us->r x xs H Q->
  Vi #[X,X] X.A (call (.builtin id) (v::us)) (EP X ot σ Q) X.xe s
def iq.one:∀{x:V}{us:om o7},iq [x] us->∃u,us= [u]/\ik x u
 |_,_,.cons r .nil=>[0:r]
def iq.zero:∀{us:om o7},iq [] us->us= []
 |_,.nil=>rfl
variable {xs:om V}{us:om o7}
def iq.dropLast (h:iq xs us):iq xs.dropLast us.dropLast:=by
 induction h with
 |nil=>exact .nil
 |cons r t O=>
  cases t with
  |nil=>exact .nil
  |cons q t'=>exact .cons r O
def Ct {α:Type}(l:om α):l.eraseIdx (↑l-1)=l.dropLast:=by
 induction l with
 |nil=>rfl
 |cons a r O=>
  cases r with
  |nil=>rfl
  |cons b r=>
   have e:↑(a::b::r)-1=(↑(b::r)-1)+1:=by
    have h1:↑(a::b::r)=↑r+2:=rfl;have h2:↑(b::r)=↑r+1:=rfl;omega
   rw[e,List.eraseIdx_cons_succ,O]
   all_goals rfl
section
variable {X:Cx}{ot:om (o6×Obj)}{σ:St}{H:Hp}{s:o8}{l b:o6}{xs ys zs:om V}
def Inv.lset {its its':om o7}{n:Nat}{f:Array o7->Array o7}{t':Nat}(I:#[I])(O:H l=u_ (.lst xs))
  (e:s.heap.get? l=u_ {cls:= .type "list",data:= .seq its.toArray n}) (U:f its.toArray=its'.toArray) (Z:iq ys its') (hz:↑ys<=Vl) (ht:0<t':=by ac_rfl):
  Inv X ot σ (upd H l (.lst ys)) {s with heap:=s.heap.update l (Gz f),toks:=t'}:=by
 have q:=PySem.IsL.update e f;rw[U] at q;refine I.write (x:=l) (e:=l) (by rw[O];exact trivial) (.inl rfl) (λb' u hb hu=>(Us s.heap (Gz f) (UC hb)).trans hu) [_:q] ?_
 exact⟨hz,its',_,Z,q⟩
variable {its:om o7}{t':Nat}
def Inv.lnew (I:#[I])(O:iq ys its)(U:↑ys<=Vl)(Z:0<t':=by ac_rfl):
  Inv X ot σ (upd H #[0,s] (.lst ys)) {s with heap:=s.heap.push {cls:= .type "list",data:= .seq its.toArray},toks:=t'}:=
 I.laid (λ_ _ q=>ud _ q) (ug _) ⟨U,its,(0),O,uE _ rfl⟩
def Inv.fresh (I:#[I]):H #[0,s]=none:=I.hok.fresh (ug _)
def Inv.lstM (I:#[I])(O:H l=u_ (.lst xs)):↑xs<=Vl/\∃(its:om o7) (n:Nat),iq xs its/\↑xs=↑its/\s.heap.get? l=u_ {cls:= .type "list",data:= .seq its.toArray n}:=by
 erw[I.hok l _ O,z,its,n,r,e];exact⟨z,its,n,r,↑r,e⟩
def LK (h:n<=Vl):T7 n=false:=by
 unfold T7;exact ub ()
end
section
variable {X:Cx}
inductive qah (x:V)(vs:List V)(H:Hp)(Q:VK):Prop
 |mk (l:_)(xs:_)(y:_)(_:x= .ref l)(_:vs= [y])(_:H l=u_ (.lst xs))(_:↑xs<Vl)(_:Q .non (upd H l (.lst (xs++ [y]))))
def yF:MtM X "list.append" qah:=by
 exists 2,x,vs,v,us,Q,I,U,rv,h;erw[h,l,xs,y,rfl,rfl,O,Z,q];cases U;erw[rv.one,u,rfl,ru];erw[I.lstM O,z,its,n,r,hl,e];refine vL F.slot_list_append [_:e:1] F.entry_list_append (F.args_list_append_2 _ _) (PySem.list_append l its.toArray n u (by rw[ui];omega)) [e:?_]
 exists .non,_,I.lset (its':=its++ [u]) O e (by simp) (r.append (.cons ru .nil)) ?_,1,q
 rw[uq,uU];omega
inductive OF (x:V)(vs:List V)(H:Hp)(Q:VK):Prop
 |mk (l:_)(b:_)(xs:_)(zs:_)(_:x= .ref l)(_:vs= [.ref b])(_:H l=u_ (.lst xs))(_:H b=u_ (.lst zs))(_:↑xs+↑zs<=Vl)(_:Q .non (upd H l (.lst (xs++zs))))
def oJ:MtM X "list.extend" OF:=by
 exists 2,x,vs,v,us,Q,I,rx,rv,h;erw[h,l,b,xs,zs,rfl,rfl,Z,hB,hz,q];cases rx;erw[rv.one,u,rfl,ru];cases ru;erw[I.lstM Z,z,its,n,r,hl,e];erw[I.lstM hB,z2,O,n2,r2,aa,e2];have hsz:its.toArray.size+O.toArray.size<=sizeLine:=by rw[ui,ui];omega
 have U:¬(!its.toArray.isEmpty&&T7 (its.toArray.size+O.toArray.size))=true:=by
  rw[LK hsz,TN];exact ua
 refine vL F.slot_list_extend [_:e:1] F.entry_list_extend (F.args_list_extend_2 _ _)
  (Pb l its.toArray n b O.toArray n2 U (by rw[ui];omega) ()) [e:e2:?_]
 exists .non,_,I.lset (its':=its++O) Z e (by simp) (r.append r2) ?_,1,q
 rw[uq];omega
inductive Ad3 (x:V)(vs:List V)(H:Hp)(Q:VK):Prop
 |mk (l:_)(xs:_)(y:_)(_:x= .ref l)(_:vs= [])(_:H l=u_ (.lst xs))(_:xs[↑xs-1]? =u_ y)(_:Q y (upd H l (.lst xs.dropLast)))
def MT:MtM X "list.pop" Ad3:=by
 exists 2,x,vs,v,us,Q,I,rx,rv,h;erw[h,l,xs,y,rfl,rfl,Z,hy,q];cases rx;have O:=rv.zero;subst O;erw[I.lstM Z,z,its,n,r,hl,e];erw[r.get hy,u,hu,ru];have U:its.toArray[its.toArray.size-1]? =u_ u:=by
  show its.toArray[↑its-1]? =u_ u;rwa[<-UF,<-hl]
 refine vL F.slot_list_pop [_:e:1] F.entry_list_pop (F.args_list_pop_1 _) (pJ l its.toArray n u U (by rw[ui];omega)) [e:?_]
 exists y,_,I.lset (its':=its.dropLast) Z e ?_ r.dropLast ?_,ru,q
 ·show its.toArray.eraseIdxIfInBounds (its.toArray.size-1)=its.dropLast.toArray;rw[ui,List.eraseIdxIfInBounds_toArray,Ct]
 ·rw[List.length_dropLast];omega
inductive Ad8 (x:V)(y:V)(H:Hp)(Q:VK):Prop
 |mk (l:_)(b:_)(xs:_)(zs:_)(_:x= .ref l)(_:y= .ref b)(_:H l=u_ (.lst xs))(_:H b=u_ (.lst zs))(_:↑xs+↑zs<=Vl)(_:∀p,H p=U_->Q (.ref p) (upd H p (.lst (xs++zs))))
def WO:OpR X (VQ .Add) Ad8:=by
 exists 2,x,y,v,u,Q,I,U,Z,h;erw[h,l,b,xs,zs,rfl,rfl,hH,hB,hz,q];cases U;cases Z;erw[I.lstM hH,z,its,n,r,hl,e];erw[I.lstM hB,z2,O,n2,r2,aa,e2];refine PySem.P.add_list e e2 ?_ (by rw[ui,ui];omega)
 have ea:its.toArray++O.toArray=(its++O).toArray:=by simp
 rw[ea];exact⟨.ref _,_,I.lnew (t':=s.toks) (r.append r2) (by rw[uq];omega),1,q _ I.fresh⟩
end
section
variable {prog:og}{w:oh}{A:oj}{E:o7->o8->Prop}{s:o8}
set_option maxRecDepth 100000 in
end
section
variable {κ:Type}[DecidableEq κ]
nonrec def iR (kvs:om (κ×V))(k:κ):oq V:=(kvs.find? λkv=>decide (kv.1=k)).map (·.2)
nonrec def lY (kvs:om (κ×V))(k:κ)(v:V):om (κ×V):=
 if(kvs.any λkv=>decide (kv.1=k))=v_ then kvs.map (λkv=>if kv.1=k then(kv.1,v) else kv) else kvs++ [(k,v)]
nonrec def JK (kvs:om (κ×V))(k:κ):om (κ×V):=kvs.filter λkv=>decide (kv.1≠k)
def Kk {k:κ}:iR ([]:om (κ×V)) k=none:=rfl
def QZ {p:κ×V}{r:om (κ×V)}{k:κ}(e:p.1=k):iR (p::r) k=u_ p.2:=by simp[iR,uQ,e]
def QO {p:κ×V}{r:om (κ×V)}{k:κ}(e:¬p.1=k):iR (p::r) k=iR r k:=by simp[iR,uQ,e]
def xm (k:κ):∀kvs:om (κ×V),(kvs.any λkv=>decide (kv.1=k))=(iR kvs k).isSome
 | []=>rfl
 |p::r=>by
  rw[UH];by_cases e:p.1=k
  ·simp![QZ e,A9 e,Bool.true_or,rR]
  ·rw[QO e,ub e,rO];exact xm k r
def AG (k j:κ)(y:V):∀kvs:om (κ×V),iR (kvs.map λkv=>if kv.1=k then(kv.1,y) else kv) j=(iR kvs j).map λx=>if j=k then y else x
 | []=>rfl
 |p::r=>by
  have O:=AG k j y r;rw[ur];by_cases h:p.1=k
  ·rw[A6 h];by_cases e:p.1=j
   ·rw[QZ (p:=(p.1,y)) e,QZ e,HN,A6 (e.symm.trans h)]
   ·rw[QO (p:=(p.1,y)) e,QO e,O]
  ·rw[A4 h];by_cases e:p.1=j
   ·rw[QZ (p:=p) e,QZ e,HN,A4 (λz=>h (e.trans z))]
   ·rw[QO (p:=p) e,QO e,O]
def nB (k j:κ)(y:V):∀kvs:om (κ×V),iR kvs k=U_->iR (kvs++ [(k,y)]) j=if j=k then u_ y else iR kvs j
 | [],_=>by
  by_cases e:k=j
  ·rw[A6 e.symm];exact QZ (p:=(k,y)) e
  ·rw[A4 (λz=>e z.symm)];exact QO (p:=(k,y)) e
 |p::r,hn=>by
  rw[U4];have O:¬p.1=k:=λz=>by rw[QZ z] at hn;cases hn
  rw[QO O] at hn;have U:=nB k j y r hn;by_cases e:p.1=j
  ·rw[QZ e,QZ e,A4 (λz=>O (e.trans z))]
  ·rw[QO e,QO e,U]
def X9 (kvs:om (κ×V))(k j:κ)(y:V):iR (lY kvs k y) j=if j=k then u_ y else iR kvs j:=by
 unfold lY;by_cases a:(kvs.any λkv=>decide (kv.1=k))=v_
 ·rw[A6 a,AG];rw[xm] at a;by_cases e:j=k
  ·erw[Option.isSome_iff_exists.mp a,x,O];rw[A6 e,e,O,HN,A6 rfl]
  ·rw[A4 e];cases iR kvs j with
   |none=>rfl
   |some x=>rw[HN,A4 e]
 ·rw[A4 a];refine nB k j y kvs ?_;rw[xm] at a;cases q:iR kvs k with
  |none=>rfl
  |some x=>rw[q] at a;exact(a rfl).elim
def yZ (kvs:om (κ×V))(k:κ)(v:V):↑(lY kvs k v)<=↑kvs+1:=by
 unfold lY;split
 ·rw[u9];omega
 ·rw[uq,uj,HI];omega
variable {kvs:om (κ×V)}
def Kj {k:κ}(v:V)(h:iR kvs k=U_):lY kvs k v=kvs++ [(k,v)]:=by
 unfold lY;rw[xm,h];exact A4 ()
def nj.isSome_eq {o:oq V}{u:oq o7}(r:nj o u):o.isSome=u.isSome:=by
 cases o with
 |none=>cases u with
  |none=>rfl
  |some _=>exact(show False from r).elim
 |some _=>cases u with
  |none=>exact(show False from r).elim
  |some _=>rfl
def nj.getD {o:oq V}{u:oq o7}{d:V}{d':o7}(r:nj o u)(rd:ik d d'):ik (o.getD d) (u.getD d'):=by
 cases o with
 |none=>cases u with
  |none=>exact rd
  |some _=>exact(show False from r).elim
 |some _=>cases u with
  |none=>exact(show False from r).elim
  |some _=>exact r
variable {vs:om (κ×o7)}
def KV.val (r:KV kvs vs)(k:κ):nj (iR kvs k) (Gk vs k):=by
 unfold KV at r
 induction r with
 |nil=>exact VP
 | @cons p q ps qs h t ih=>
  erw[h,h1,h2];by_cases e:p.1=k
  ·have O:q.1=k:=h1.symm.trans e;have b:Gk (q::qs) k=u_ q.2:=by simp[Gk,uQ,O]
   rwa[QZ e,b]
  ·have O:¬q.1=k:=λz=>e (h1.trans z);have b:Gk (q::qs) k=Gk qs k:=by simp[Gk,uQ,O]
   rw[QO e,b];exact ih
def KV.any (r:KV kvs vs)(k:κ):(kvs.any λkv=>decide (kv.1=k))=vs.any λkv=>decide (kv.1=k):=by
 unfold KV at r
 induction r with
 |nil=>rfl
 |cons h t O=>rw[UH,UH,O,h.1]
variable {y:V}{u:o7}
def KV.repl (r:KV kvs vs)(k:κ)(O:ik y u):
  KV (kvs.map λkv=>if kv.1=k then(kv.1,y) else kv) (vs.map λkv=>if kv.1=k then(kv.1,u) else kv):=by
 unfold KV at r⊢
 induction r with
 |nil=>exact .nil
 | @cons p q ps qs h t ih=>
  rw[ur,ur];refine .cons ?_ ih;erw[h,h1,h2];by_cases e:p.1=k
  ·rw[A6 e,A6 (h1.symm.trans e)];exact[h1:O]
  ·rw[A4 e,A4 (λz=>e (h1.trans z))];exact[h1:h2]
def KV.put (r:KV kvs vs)(k:κ)(O:ik y u):KV (lY kvs k y) (Gq vs k u):=by
 unfold lY Gq;rw[r.any k];by_cases e:(vs.any λkv=>decide (kv.1=k))=v_
 ·rw[A6 e,A6 e];exact r.repl k O
 ·rw[A4 e,A4 e];exact Paired.snoc r [1:O]
def KV.drop (r:KV kvs vs)(k:κ):KV (JK kvs k) (without vs k):=by
 unfold KV at r⊢;unfold JK without
 induction r with
 |nil=>exact .nil
 | @cons p q ps qs h t ih=>
  erw[h,h1,h2];rw[vW,vW];by_cases e:p.1=k
  ·have a:¬decide (p.1≠k)=true:=by simp[e]
   have b:¬decide (q.1≠k)=true:=by simp[h1.symm.trans e]
   rw[A4 a,A4 b];exact ih
  ·have O:¬q.1=k:=λz=>e (h1.trans z);have a:decide (p.1≠k)=true:=by simp[e]
   have b:decide (q.1≠k)=true:=by simp[O]
   rw[A6 a,A6 b];exact .cons [h1:h2] ih
def KV.keys (r:KV kvs vs):kvs.map (·.1)=vs.map (·.1):=by
 unfold KV at r
 induction r with
 |nil=>rfl
 |cons h t O=>rw[ur,ur,O,h.1]
def KV.length (r:KV kvs vs):↑kvs=↑vs:=Paired.length r
def BO (kvs:om (κ×V))(k:κ):↑(JK kvs k)<=↑kvs:=vP _ _
end
variable {w:oh}{u:o7}
def oO {P:og}{k:Key}(r:ik (kV k) u):(Qu P w).is k u=true:=by
 cases k with
 |inl i=>obtain⟨t,e⟩:=(show∃t,u=Gn i t from r);subst e;exact Am P w i t
 |inr x=>obtain⟨t,e⟩:=(show∃t,u=VI x t from r);subst e;exact Wg P w x t
def oP {P:og}{w:oh}:∀{ks:om Key}{us:om o7},iq (ks.map kV) us->ItemsAre (Qu P w) ks us
 | [],_,r=>by rw[Uk] at r;cases r;exact .nil
 |k::ks,_,r=>by
  rw[ur] at r;cases r with
  |cons h t=>exact .cons (oO h) (oP t)
noncomputable abbrev KT (H:Hp):om (om Key×V)->om (om Key×o6×o7)->Prop:=Paired λp q=>p.1=q.1/\H q.2.1=u_ (.tup (p.1.map kV))/\ik p.2 q.2.2
variable {H:Hp}
def KT.val {kvs:om (om Key×V)}{xs:om (om Key×o6×o7)}(r:KT H kvs xs)(k:om Key):nj (iR kvs k) ((g_ xs k).map (·.2)):=by
 induction r with
 |nil=>exact VP
 | @cons p q ps qs h t ih=>
  erw[h,h1,_,h2];by_cases e:p.1=k
  ·have O:q.1=k:=h1.symm.trans e;have b:g_ (q::qs) k=u_ q.2:=by simp[g_,uQ,O]
   rwa[QZ e,b]
  ·have O:¬q.1=k:=λz=>e (h1.trans z);have b:g_ (q::qs) k=g_ qs k:=by simp[g_,uQ,O]
   rw[QO e,b];exact ih
variable {y:V}
def KT.repl {kvs:om (om Key×V)}{xs:om (om Key×o6×o7)}(r:KT H kvs xs)(k:om Key)(O:ik y u):
  KT H (kvs.map λkv=>if kv.1=k then(kv.1,y) else kv) (xs.map (putAt k u)):=by
 induction r with
 |nil=>exact .nil
 | @cons p q ps qs h t ih=>
  rw[ur,ur];refine .cons ?_ ih;erw[h,h1,h2,h3];unfold putAt;by_cases e:p.1=k
  ·rw[A6 e,A6 (h1.symm.trans e)];exact[h1:h2:O]
  ·rw[A4 e,A4 (λz=>e (h1.trans z))];exact[h1:h2:h3]
variable {b:o6}
def KT.put {kvs:om (om Key×V)}{xs:om (om Key×o6×o7)}(r:KT H kvs xs)(k:om Key)(U:H b=u_ (.tup (k.map kV)))(O:ik y u):
  KT H (lY kvs k y) (storedH xs k b u):=by
 have e:(kvs.any λkv=>decide (kv.1=k))=(g_ xs k).isSome:=by
  rw[xm,(r.val k).isSome_eq,To]
 unfold lY storedH;rw[e];by_cases q:(g_ xs k).isSome=v_
 ·rw[A6 q,A6 q];exact r.repl k O
 ·rw[A4 q,A4 q];exact Paired.snoc r [1:U:O]
variable {H':Hp}
def KT.keeps {kvs:om (om Key×V)}{xs:om (om Key×o6×o7)}(r:KT H kvs xs)(O:∀b ys,H b=u_ (.tup ys)->H' b=u_ (.tup ys)):KT H' kvs xs:=
 Paired.mapP r λ_ _ z=>[z.1:O _ _ z.2.1:z.2.2]
section
variable {P:og}{w:oh}{H:Hp}{h:o9}{a:o6}
def Aau {u:HO}(ok:HOk P w H h)(e:Rd H a u):yy P w H h a u:=e.ok ok
def W0 {kvs:om (Key×V)}(ok:HOk P w H h)(e:Rd H a (.dK kvs)):↑kvs<=Vl/\(a==VF)=Vh/\∃vs,KV kvs vs/\h.DictOf (Qu P w) a vs:=
 show yy P w H h a (.dK kvs) from Aau ok e
def L9 {kvs:om (Key×V)}(ok:HOk P w H h)(e:H a=u_ (.dK kvs)):↑kvs<=Vl/\(a==VF)=Vh/\∃vs,KV kvs vs/\h.DictOf (Qu P w) a vs:=W0 ok (.inl e)
def Wy {ks:om Key}(ok:HOk P w H h)(e:H a=u_ (.tup (ks.map kV))):(GC (Qu P w)).is h ks a:=by
 obtain⟨_,its,r,o,h1,h2,n,h3⟩:=(show yy P w H h a (.tup (ks.map kV)) from ok a _ e)
 exact⟨o,its.toArray,n,h1,h2,h3,by simpa using oP r⟩
def so {kvs:om (om Key×V)}(ok:HOk P w H h)(e:Rd H a (.dT kvs)):↑kvs<=Vl/\(a==VF)=Vh/\
  ∃xs,KT H kvs xs/\h.DictOfH (GC (Qu P w)) a xs:=by
 obtain⟨z,y,xs,r,o,es,ep,h1,h2,h3,h4,h5⟩:=(show yy P w H h a (.dT kvs) from Aau ok e)
 exists z,y,xs,r,o,es,ep,h1,h2,h3,h4,λx O=>?_,h5;have all:∀{l:om (om Key×V)}{m:om (om Key×o6×o7)},KT H l m->∀x∈m,(GC (Qu P w)).is h x.1 x.2.1:=by
  intro l m q
  induction q with
  |nil=>intro x O;exact nomatch O
  | @cons p q ps qs hq t ih=>
   intro x O;rcases Ac.mp O with e|O
   ·subst e;exact Wy ok (by rw[<-hq.1];exact hq.2.1)
   ·exact ih x O
 exact all r x O
def Ac5 {kvs:om (om Key×V)}(ok:HOk P w H h)(e:H a=u_ (.dT kvs)):↑kvs<=Vl/\(a==VF)=Vh/\
  ∃xs,KT H kvs xs/\h.DictOfH (GC (Qu P w)) a xs:=so ok (.inl e)
end
nonrec def mx (H:Hp)(a:o6)(y:V)(r:oq V):Prop:=
 (∃kvs k,Rd H a (.dK kvs)/\y=kV k/\r=iR kvs k)∨∃kvs k b,Rd H a (.dT kvs)/\y= .ref b/\H b=u_ (.tup (k.map kV))/\r=iR kvs k
nonrec def BZ (H:Hp)(a:o6)(y v:V)(H':Hp):Prop:=
 (∃kvs k,H a=u_ (.dK kvs)/\y=kV k/\↑kvs<Vl/\H'=upd H a (.dK (lY kvs k v)))∨
 ∃kvs k b,H a=u_ (.dT kvs)/\y= .ref b/\H b=u_ (.tup (k.map kV))/\↑kvs<Vl/\H'=upd H a (.dT (lY kvs k v))
def mx.k {H:Hp}{a:o6}{kvs:om (Key×V)}{k:Key}(e:H a=u_ (.dK kvs)):mx H a (kV k) (iR kvs k):= .inl ⟨kvs,k,.inl e,1,1⟩
def BZ.k {H:Hp}{a:o6}{kvs:om (Key×V)}{k:Key}{v:V}(e:H a=u_ (.dK kvs))(O:↑kvs<Vl):BZ H a (kV k) v (upd H a (.dK (lY kvs k v))):= .inl ⟨kvs,k,e,1,O,1⟩
section
variable {X:Cx}{ot:om (o6×Obj)}{σ:St}{H:Hp}{s:o8}{a:o6}{y v:V}{u r:o7}{o:oq V}{A:oj}{E:o7->o8->Prop}
def Inv.big (I:#[I]):VF<#[0,s]:=by
 have h:VG<#[0,s]:=(I.mod.glob.keeps I.bk).lt;exact Hm () h
def Ih {Q:o7->o8->Prop}(hu:A.units+1<Vr)(I:#[I])(g:mx H a y (u_ v))(ry:ik y u)(h:∀U s',Inv X ot σ H s'->ik v U->Q U s'):
  Vi #[X,X] A (VT (.ref a) u) Q E s:=by
 rcases g with⟨kvs,k,e,Z,l⟩|⟨kvs,k,b,e,Z,eb,l⟩
 ·subst Z;erw[W0 I.hok e,z,hd,vs,rel,dd];obtain⟨U,hw,O⟩:=nj.some_of (v:=v) (o:=Gk vs k) (by rw[l];exact rel.val k)
  exact rE (oO ry) dd.mapOf hw (h U _ (I.tok _) O)
 ·subst Z;cases(show u=Vo b from ry)
  erw[so I.hok e,z,hd,xs,rel,dd];obtain⟨U,hw,O⟩:=nj.some_of (v:=v) (o:=(g_ xs k).map (·.2)) (by rw[l];exact rel.val k)
  erw[Option.map_eq_some_iff.mp hw,p,hp,aa];refine wpAny_getItem_heap (U6 hu) (Wy I.hok eb) dd hp ?_;rw[aa];exact h U _ (I.tok _) O
def Aeg {Q:o7->o8->Prop}(Z:A.units+1<Vr)(I:#[I])(g:mx H a y o)(U:ik y u)(h:∀s',Inv X ot σ H s'->Q (.bool o.isSome) s'):
  Vi #[X,X] A (Vt .In u (.ref a)) Q E s:=by
 rcases g with⟨kvs,k,e,O,l⟩|⟨kvs,k,b,e,O,eb,l⟩
 ·subst O;erw[W0 I.hok e,z,hd,vs,rel,dd];refine pq (oO U) hd dd.mapOf ?_;rw[<-(rel.val k).isSome_eq,<-l];exact h _ (I.tok _)
 ·subst O;cases(show u=Vo b from U)
  erw[so I.hok e,z,hd,xs,rel,dd];refine wpAny_in_heap (U6 Z) (Wy I.hok eb) hd dd ?_;have q:=(rel.val k).isSome_eq;rw[To] at q;rw[<-q,<-l];exact h _ (I.tok _)
def Sv {Q:o7->o8->Prop}(Z:A.units+1<Vr)(I:#[I])(g:mx H a y o)(U:ik y u)(h:∀s',Inv X ot σ H s'->Q (.bool (!o.isSome)) s'):
  Vi #[X,X] A (Vt .NotIn u (.ref a)) Q E s:=by
 rcases g with⟨kvs,k,e,O,l⟩|⟨kvs,k,b,e,O,eb,l⟩
 ·subst O;erw[W0 I.hok e,z,hd,vs,rel,dd];refine R8 (oO U) hd dd.mapOf ?_;rw[<-(rel.val k).isSome_eq,<-l];exact h _ (I.tok _)
 ·subst O;cases(show u=Vo b from U)
  erw[so I.hok e,z,hd,xs,rel,dd];refine wpAny_notIn_heap (U6 Z) (Wy I.hok eb) hd dd ?_;have q:=(rel.val k).isSome_eq;rw[To] at q;rw[<-q,<-l];exact h _ (I.tok _)
variable {h':o9}{t':Nat}
def Ay {ob:HO}(I:#[I])(mu:Mut (H a))(O:GZ a s.heap h')(U:∃q,h'.get? a=u_ q)(new:yy X.prog X.w (upd H a ob) h' a ob)(ht:0<t':=by ac_rfl):
  Inv X ot σ (upd H a ob) {s with heap:=h',toks:=t'}:=
 I.write (x:=a) (e:=a) mu (.inl rfl) (λb q Z z=>(O.2 b Z).trans z) U new
def su {P:og}{kvs:om (Key×V)}{vs:om (Key×o7)}(z:↑kvs<=Vl)(hd:(a==VF)=Vh)(rel:KV kvs vs)(dd:h'.DictOf (Qu P w) a vs):
  yy P w H' h' a (.dK kvs):=⟨z,hd,vs,rel,dd⟩
def Ig {Q:Unit->o8->Prop}(hu:A.units+1<Vr)(I:#[I])(g:BZ H a y v H')(ry:ik y u)(rv:ik v r)(h:∀s',Inv X ot σ H' s'->Q GL s'):
  Vi #[X,X] A (Fc (.ref a) u r) Q E s:=by
 rcases g with⟨kvs,k,e,Z,l,eH⟩|⟨kvs,k,b,e,Z,eb,l,eH⟩
 ·subst Z eH;erw[L9 I.hok e,z,hd,vs,rel,dd];have hz:↑vs<=sizeLine:=by rwa[<-↑rel]
  have hl:↑(lY kvs k v)<=sizeLine:=by have:=yZ kvs k v;omega
  refine wpAny_setItem_pairs (hsz:=hz) (oO ry) dd λh' O hs=>h _ ?_;have he:∃q,h'.get? a=u_ q:=let⟨q,_,_,U,_⟩:=O;[q:U];exact Ay I (by rw[e];exact VP) hs he (su hl hd (rel.put k rv) O)
 ·subst Z eH;cases(show u=Vo b from ry)
  erw[Ac5 I.hok e,z,hd,xs,rel,dd];have hz:↑xs<=sizeLine:=by rwa[<-Paired.length rel]
  have hl:↑(lY kvs k v)<=sizeLine:=by have:=yZ kvs k v;omega
  refine wpAny_setItem_heap (hsz:=hz) (U6 hu) (Wy I.hok eb) dd λh' O hs=>h _ ?_;erw[O,q,es,ep,U,h2,h3,h4,_,h5];refine Ay I (by rw[e];exact VP) hs [q:U] ⟨hl,hd,_,(rel.put k eb rv).keeps λc ys ec=>?_,q,es,ep,U,h2,h3,h4,h5⟩
  rw[qm (AcK ec e (λz=>nomatch z))];exact ec
end
section
variable {X:Cx}{ot:om (o6×Obj)}{σ:St}{H:Hp}{s:o8}{a:o6}{kvs:om (Key×V)}{k:Key}{u:o7}{A:oj}{E:o7->o8->Prop}
def Ac8 {v:V}{more:om o7}{Q:o7->o8->Prop}(I:#[I])(e:H a=u_ (.dK kvs))(Z:ik (kV k) u)(l:iR kvs k=u_ v)(hm:more= []∨∃x,more= [x])
  (h:∀O s',Inv X ot σ (upd H a (.dK (JK kvs k))) s'->ik v O->Q O s'):Vi #[X,X] A (call (.builtin "dict.pop") (.ref a::u::more)) Q E s:=by
 erw[L9 I.hok e,z,hd,vs,rel,dd];obtain⟨O,hw,aa⟩:=nj.some_of (v:=v) (o:=Gk vs k) (by rw[<-l];exact rel.val k)
 have hp:(keyPart u).isSome=true:=by
  cases k with
  |inl i=>obtain⟨t,q⟩:=(show∃t,u=Gn i t from Z);subst q;rfl
  |inr x=>obtain⟨t,q⟩:=(show∃t,u=VI x t from Z);subst q;rfl
 have ha:argsOk "dict.pop" ⟨.ref a::u::more,[]⟩:=by
  rcases hm with q|⟨x,q⟩
  ·subst q;exact PySem.F.args_dict_pop_2 _ _
  ·subst q;exact PySem.F.args_dict_pop_3 _ _ _
 refine GW PySem.F.slot_dict_pop dd.typeIs PySem.F.entry_dict_pop ha (meets_dict_pop_there (Qu X.prog X.w) a (oO Z) more hm hp)
  ⟨vs,O,dd,by rwa[<-↑rel],hw,λh' U hs=>h O _ ?_ aa⟩
 have he:∃q,h'.get? a=u_ q:=let⟨q,_,_,hq,_⟩:=U;[q:hq];exact Ay I (by rw[e];exact VP) hs he (su (uL (BO kvs k) z) hd (rel.drop k) U)
def Ac9 {Q:o7->o8->Prop}(I:#[I])(e:Rd H a (.dK kvs))(h:∀t s',Inv X ot σ H s'->Q (.int ↑kvs t) s'):Vi #[X,X] A (call (.builtin "len") [.ref a]) Q E s:=by
 erw[W0 I.hok e,z,hd,vs,rel,dd];refine call_len_dict hd dd (by rw[<-↑rel];rw[uw] at z;omega) ?_
 rw[<-↑rel];exact h _ _ (I.tok _)
end
nonrec def AdL (i:Expr):Prop:=∀ov iv,Hh i Vh ov iv=HX [ov,iv] (VT ov iv)
def NG {prog:og}{w:oh}{A:oj}{E:o7->o8->Prop}{s:o8}{env:Env}{value slice:Expr}{pos:Pos}{T id:String}{Q:o7->o8->Prop}
  (hl:GT (.type T) "__getitem__"=pure (u_ (.builtin id))) (hs:AdL slice)
  (h:Vi #[w,w] A (eval value env) (λo Z=>Vi #[w,w] A (eval slice env) (λi O=>O.TypeIs o T/\Vi #[w,w] A (VT o i) Q E O) E Z) E s):
  Vi #[w,w] A (eval (.Subscript value slice pos) env) Q E s:=by
 refine Hs (vS h (λo Z h₁=>vS h₁ (λi O U=>?_) λ_ _ x=>x) λ_ _ x=>x);erw[U,hT,U];unfold Hy;refine A8 ?_;rw[getitemInPython_of_ne hT.not_modules];refine A8 (tW hT hl ?_);have fin:Vi #[w,w] A (Hh slice Vh o i) (λr s₃=>Vi #[w,w] A (letTemporaryGo value o r>>=λ_=>pure r) Q E s₃) E O:=by
  rw[hs o i];exact wpAny_operating (vS U (λr s₃ h₃=>A8 (wpAny_letTemporaryGo (uz h₃))) λ_ _ x=>x)
 first
  |exact uz (A8 fin)
  |exact A8 (uz (A8 fin))
  |exact A8 fin
variable {X:Cx}{ot:om (o6×Obj)}{σ:St}{s:o8}{a:o6}
def Ax {o:oq V}(I:#[I])(g:mx H a y o):s.TypeIs (.ref a) "dict":=by
 rcases g with⟨kvs,k,e,_,_⟩|⟨kvs,k,b,e,_,_,_⟩
 ·erw[W0 I.hok e,_,_,vs,_,dd];exact dd.typeIs
 ·erw[so I.hok e,_,_,xs,_,dd];exact dd.typeIs
inductive Nt (Q:VK)(x:V)(y:V)(H2:Hp):Prop
 |mk (a:_)(v:_)(_:x= .ref a)(_:mx H2 a y (u_ v))(_:Q v H2)
nonrec def Acn (td ty:TE):TE:=λσ H Q=>td σ H λx H1=>ty σ H1 λy H2=>Nt Q x y H2
inductive Adk (Q:VK)(y:V)(x:V)(H2:Hp):Prop
 |mk (a:_)(o:_)(_:x= .ref a)(_:mx H2 a y o)(_:Q (.bl o.isSome) H2)
nonrec def AdU (ty td:TE):TE:=λσ H Q=>ty σ H λy H1=>td σ H1 λx H2=>Adk Q y x H2
inductive Mh (Q:VK)(y:V)(x:V)(H2:Hp):Prop
 |mk (a:_)(o:_)(_:x= .ref a)(_:mx H2 a y o)(_:Q (.bl (!o.isSome)) H2)
nonrec def NF (ty td:TE):TE:=λσ H Q=>ty σ H λy H1=>td σ H1 λx H2=>Mh Q y x H2
inductive AbT (D:mW)(σ:St)(v:V)(x:V)(y:V)(H3:Hp):Prop
 |mk (a:_)(H4:_)(_:x= .ref a)(_:BZ H3 a y v H4)(_:D.nx σ H4)
nonrec def Acv (td ty tv:TE):TS:=λD σ H=>tv σ H λv H1=>td σ H1 λx H2=>ty σ H2 λy H3=>AbT D σ v x y H3
section
variable {X:Cx}{o i e value:Expr}{pos pos' tpos:Pos}{td ty tv:TE}
def Ql (Z:X.A.units+1<Vr)(ho:PE X o td)(hi:PE X i ty)(hs:AdL i):PE X (.Subscript o i pos) (Acn td ty):=by
 exists 2,Q,I,h;refine NG PySem.F.slot_dict_getitem.lookup hs (thn (ho ot s σ H _ I h) λu s1 ⟨x,H1,I1,rx,q1⟩=>thn (hi ot s1 σ H1 _ I1 q1) λiv s2 zq=>?_);erw[zq,y,H2,U,ry,a,v,ex,g,q2];subst ex;obtain rfl:u=Vo a:=rx;exact[Ax U g:Ih Z U g ry λw' s3 I3 O=>⟨v,H2,I3,O,q2⟩]
def kZ (O:X.A.units+1<Vr)(hi:PE X i ty)(U:PE X o td):PC X .In i o (AdU ty td):=by
 exists 2,Q,I,h;refine thn (hi ot s σ H _ I h) λiv s1 ⟨y,H1,Z,ry,q1⟩=>thn (U ot s1 σ H1 _ Z q1) λu s2 zq=>?_;erw[zq,x,H2,I2,rx,a,ov,ex,g,q2];subst ex;obtain rfl:u=Vo a:=rx;exact Aeg O I2 g ry λs3 I3=>⟨.bl ov.isSome,H2,I3,1,q2⟩
def JX (O:X.A.units+1<Vr)(hi:PE X i ty)(U:PE X o td):PC X .NotIn i o (NF ty td):=by
 exists 2,Q,I,h;refine thn (hi ot s σ H _ I h) λiv s1 ⟨y,H1,Z,ry,q1⟩=>thn (U ot s1 σ H1 _ Z q1) λu s2 zq=>?_;erw[zq,x,H2,I2,rx,a,ov,ex,g,q2];subst ex;obtain rfl:u=Vo a:=rx;exact Sv O I2 g ry λs3 I3=>⟨.bl (!ov.isSome),H2,I3,1,q2⟩
def YO (O:X.A.units+1<Vr)(U:PE X o td)(hi:PE X i ty)(Z:PE X value tv)(hs:hZ value (u_ (.Subscript o i pos')) pos.line X.env=pure Vh):
  PS X (.Assign [.Subscript o i pos'] value pos) (Acv td ty tv):=by
 exists 2,D,I,h;refine wpAny_Assign_Subscript (thn (Z ot s σ H _ I h) λr s1 ⟨v,H1,I1,rv,q1⟩=>thn (U ot s1 σ H1 _ I1 q1) λu s2 ⟨x,H2,I2,rx,q2⟩=>thn (hi ot s2 σ H2 _ I2 q2) λiv s3 zq=>?_) hs;erw[zq,y,H3,I3,ry,a,H4,ex,g,q3];subst ex;obtain rfl:u=Vo a:=rx;exact Ig O I3 g ry rv λs4 I4=>⟨σ,H4,I4,q3⟩
end
def Ma {P:og}(h:o9)(O:VF<h.objs.size):yy P w H (h.push {cls:= .type "dict",data:= .dict #[]}) h.objs.size (.dK []):=
 ⟨uG _,beq_eq_false_iff_ne.mpr (UC (uO O)),[],.nil,rX h⟩
nonrec def Aaa:TE:=λ_ H Q=>∀p,H p=U_->Q (.ref p) (upd H p (.dK []))
section
variable {X:Cx}{pos:Pos}
def xi:PE X (.Dict [] [] pos) Aaa:=λot s σ H Q I h=>
 wpAny_Dict_empty ⟨.ref #[0,s],_,I.laid (a:=#[0,s]) (o:= .dK []) (t':=s.toks) (λ_ _ q=>ud _ q) (ug _) (Ma s.heap I.big),1,h _ (I.hok.fresh (ug _))⟩
end
structure M1 (X:Cx)(o:Expr)(m:Str)(apos:Pos)(e:Expr)(cpos:Pos):Prop where
 base:GJ o m X.env (eval o X.env)=eval o X.env
 few:((Vu cpos (Vm [e] X.env)).all (λx=> !x.1)&&(Gx cpos (GE [] X.env)).all (λx=>x.1.isSome)
  &&decide (↑([e]:om Expr)+↑([]:om Gh)+(if([]:om Gh).isEmpty then 0 else 1)<30))=v_
 line:(apos.endLine==cpos.line)=v_
 trees:Vu cpos (Vm [e] X.env)= [(Vh,eval e X.env)]
structure M2 (X:Cx)(o:Expr)(m:Str)(apos:Pos)(e f:Expr)(cpos:Pos):Prop where
 base:GJ o m X.env (eval o X.env)=eval o X.env
 few:((Vu cpos (Vm [e,f] X.env)).all (λx=> !x.1)&&(Gx cpos (GE [] X.env)).all (λx=>x.1.isSome)
  &&decide (↑([e,f]:om Expr)+↑([]:om Gh)+(if([]:om Gh).isEmpty then 0 else 1)<30))=v_
 line:(apos.endLine==cpos.line)=v_
 trees:Vu cpos (Vm [e,f] X.env)= [(Vh,eval e X.env),(Vh,eval f X.env)]
nonrec def IsD (H:Hp)(a:o6):Prop:=(∃kvs,Rd H a (.dK kvs))∨∃kvs,Rd H a (.dT kvs)
def ED (I:#[I])(d:IsD H a):
  s.TypeIs (.ref a) "dict"/\(∀b,Vo a= .ref b->∃ob,s.heap.get? b=u_ ob/\ob.dict=U_)/\(a==VF)=false:=by
 rcases d with⟨kvs,e⟩|⟨kvs,e⟩
 ·erw[W0 I.hok e,_,hd,vs,_,dd];exists dd.typeIs,λb q=>?_,hd;cases q;erw[dd,ob,_,_,h1,h2,_];exact[ob:h1:h2.2.1]
 ·erw[so I.hok e,_,hd,xs,_,dd];exists dd.typeIs,λb q=>?_,hd;cases q;erw[dd,ob,_,_,h1,h2,_];exact[ob:h1:h2.2.1]
section
variable {X:Cx}{ot:om (o6×Obj)}{σ:St}{H:Hp}{s:o8}{a:o6}{y d:V}{u r:o7}{o:oq V}{A:oj}{E:o7->o8->Prop}
def Aby {Q:o7->o8->Prop}(hu:A.units+1<Vr)(I:#[I])(g:mx H a y o)(U:ik y u)(h:∀Z s',Inv X ot σ H s'->ik (o.getD .non) Z->Q Z s'):
  Vi #[X,X] A (call (.builtin "dict.get") [.ref a,u]) Q E s:=by
 rcases g with⟨kvs,k,e,O,l⟩|⟨kvs,k,b,e,O,eb,l⟩
 ·subst O;erw[W0 I.hok e,z,hd,vs,rel,dd];refine GW vQ dd.typeIs Ut (PySem.F.args_dict_get_2 _ _) (meets_dict_get (Qu X.prog X.w) a (oO U) hd) [_:dd.mapOf:h _ _ (I.tok _) ?_];rw[l];exact(rel.val k).getD rfl
 ·subst O;cases(show u=Vo b from U)
  erw[so I.hok e,z,hd,xs,rel,dd];refine GW vQ dd.typeIs Ut (PySem.F.args_dict_get_2 _ _) (meetsH_dict_get (GC (Qu X.prog X.w)) a b hd) ⟨U6 hu,k,xs,Wy I.hok eb,dd,h _ _ (I.tok _) ?_⟩;rw[l];exact(rel.val k).getD rfl
def Abx {Q:o7->o8->Prop}(hu:A.units+1<Vr)(I:#[I])(g:mx H a y o)(U:ik y u)(rd:ik d r)(h:∀Z s',Inv X ot σ H s'->ik (o.getD d) Z->Q Z s'):
  Vi #[X,X] A (call (.builtin "dict.get") [.ref a,u,r]) Q E s:=by
 rcases g with⟨kvs,k,e,O,l⟩|⟨kvs,k,b,e,O,eb,l⟩
 ·subst O;erw[W0 I.hok e,z,hd,vs,rel,dd];refine GW vQ dd.typeIs Ut (PySem.F.args_dict_get_3 _ _ _) (meets_dict_get_default (Qu X.prog X.w) a (oO U) hd r) [_:dd.mapOf:h _ _ (I.tok _) ?_];rw[l];exact(rel.val k).getD rd
 ·subst O;cases(show u=Vo b from U)
  erw[so I.hok e,z,hd,xs,rel,dd];refine GW vQ dd.typeIs Ut (PySem.F.args_dict_get_3 _ _ _) (meetsH_dict_get_default (GC (Qu X.prog X.w)) a b hd r) ⟨U6 hu,k,xs,Wy I.hok eb,dd,h _ _ (I.tok _) ?_⟩;rw[l];exact(rel.val k).getD rd
end
inductive SO (ty:TE)(σ:St)(Q:VK)(x:V)(H1:Hp):Prop
 |mk (a:_)(_:x= .ref a)(_:IsD H1 a)(_:ty σ H1 λy H2=>∃o,mx H2 a y o/\Q (o.getD .non) H2)
nonrec def Aac (td ty:TE):TE:=λσ H Q=>td σ H λx H1=>SO ty σ Q x H1
inductive SN (ty tx:TE)(σ:St)(Q:VK)(x:V)(H1:Hp):Prop
 |mk (a:_)(_:x= .ref a)(_:IsD H1 a)(_:ty σ H1 λy H2=>tx σ H2 λz H3=>∃o,mx H3 a y o/\Q (o.getD z) H3)
nonrec def Aab (td ty tx:TE):TE:=λσ H Q=>td σ H λx H1=>SN ty tx σ Q x H1
inductive SM (ty:TE)(σ:St)(Q:VK)(x:V)(H1:Hp):Prop
 |mk (a:_)(_:x= .ref a)(_:IsD H1 a)(_:ty σ H1 λy H2=>∃kvs k v,H2 a=u_ (.dK kvs)/\y=kV k/\iR kvs k=u_ v/\Q v (upd H2 a (.dK (JK kvs k))))
nonrec def Ty (td ty:TE):TE:=λσ H Q=>td σ H λx H1=>SM ty σ Q x H1
section
variable {X:Cx}{o e f:Expr}{apos cpos:Pos}{td ty tx:TE}
def Bg (Z:X.A.units+1<Vr)(ho:PE X o td)(he:PE X e ty)(m:M1 X o "get" apos e cpos):PE X (.Call (.Attribute o "get" apos) [e] [] cpos) (Aac td ty):=by
 exists 2,Q,I,h;refine T6 m.base m.few m.line V2 vQ PySem.F.type_dict_get (thn (ho ot s σ H _ I h) λu s1 zq=>?_);erw[zq,x,H1,U,rx,a,ex,d,q1];subst ex;obtain rfl:u=Vo a:=rx;erw[ED U d,t1,t2,_];exists t1,t2;rw[m.trees];refine U2 rfl (Uc (vT (thn (he ot s1 σ H1 _ U q1) λiv s2 ⟨y,H2,I2,ry,ov,g,q2⟩=>Ue ?_)));exact Aby Z I2 g ry λw' s3 I3 O=>⟨_,H2,I3,O,q2⟩
def Bf (Z:X.A.units+1<Vr)(ho:PE X o td)(he:PE X e ty)(hf:PE X f tx)(m:M2 X o "get" apos e f cpos):PE X (.Call (.Attribute o "get" apos) [e,f] [] cpos) (Aab td ty tx):=by
 exists 2,Q,I,h;refine T6 m.base m.few m.line V2 vQ PySem.F.type_dict_get (thn (ho ot s σ H _ I h) λu s1 zq=>?_);erw[zq,x,H1,U,rx,a,ex,d,q1];subst ex;obtain rfl:u=Vo a:=rx;erw[ED U d,t1,t2,_];exists t1,t2;rw[m.trees];refine U2 rfl (Uc (vT (thn (he ot s1 σ H1 _ U q1) λiv s2 ⟨y,H2,I2,ry,q2⟩=>
  vT (thn (hf ot s2 σ H2 _ I2 q2) λfv s3 ⟨z,H3,I3,rz,ov,g,q3⟩=>Ue ?_))))
 exact Abx Z I3 g ry rz λw' s4 I4 O=>⟨_,H3,I4,O,q3⟩
def Ln (Z:PE X o td)(he:PE X e ty)(m:M1 X o "pop" apos e cpos):PE X (.Call (.Attribute o "pop" apos) [e] [] cpos) (Ty td ty):=by
 exists 2,Q,I,h;refine T6 m.base m.few m.line V2 PySem.F.slot_dict_pop PySem.F.type_dict_pop (thn (Z ot s σ H _ I h) λu s1 zq=>?_);erw[zq,x,H1,U,rx,a,ex,d,q1];subst ex;obtain rfl:u=Vo a:=rx;erw[ED U d,t1,t2,_];exists t1,t2;rw[m.trees];refine U2 rfl (Uc (vT (thn (he ot s1 σ H1 _ U q1) λiv s2 ⟨y,H2,I2,ry,kvs,k,v,ea,ey,l,q2⟩=>Ue ?_)));subst ey;exact Ac8 I2 ea ry l (.inl rfl) λw' s3 I3 O=>⟨v,_,I3,O,q2⟩
end
end L2
namespace Att
open PySem PySem.W PySem.Calls PyProof.Rows
variable {h:o9}
def wS {P:HY}:∀(ns:om Int) (vs:om o7),WellAll P h vs (ns.map WData.int)->GB vs ns:=by
 intro ns
 induction ns with
 |nil=>
  intro vs w;rw[Uk] at w;cases w;exact .nil
 |cons n ns O=>
  intro vs w;rw[ur] at w;cases w with
  |cons a b=>
   cases a;exact .cons _ _ (O _ b)
def Dk {l:OpenLaw}{n:Nat}(hn:l.most=u_ n){P:HY}{h:o9}{args:om WData}{O:om o7}
  (U:l.row.toRowW.claim.pre args=v_) (ac:WellAll P h O args):
  ∃a vs ns,O= [Vo a]/\args= [WData.list (ns.map WData.int)]/\h.get? a=u_ {cls:= .type "list",data:= .seq vs.toArray}/\GB vs ns/\↑ns<=n:=by
 have ad:WShape.hasAll [] args [.list .int]=true:=(pre_splitW U).1;have hc:l.pre.holds [] {args:=args}=true:=(pre_splitW U).2;erw[hasAllW_cons ad,d,r,rfl,h1,h2];obtain rfl:=hasAllW_nil h2;erw[hasW_list h1,xs,rfl,h3];erw[items_int h3,ns,rfl];have Z:↑ns<=n:=by
  unfold OpenLaw.pre at hc;have h4:(WTm.not (.lt (.lit (.int (n:Int))) (.len (.arg 0)))).holds [] {args:= [.list (ns.map .int)]}=true:=by
   have h4:=(holds_andW hc).1;rwa[hn] at h4
  have h5:=condW_of h4 (w_not (w_lt w_lit (w_len_list (w_arg rfl))));rw[u9] at h5;refine Nat.le_of_not_lt λq=>?_;have q':(n:Int)<((↑ns:Nat):Int):=by omega
  first
   |(rw[A9 q'] at h5;exact Aa h5 ())
   |(simp at h5;omega)
 cases ac with
 |cons w1 w2=>
  cases w2;cases w1 with
  |list ho aa=>exact⟨_,_,ns,1,1,ho,wS ns _ aa,Z⟩
def Dt (l:OpenLaw)(args:om WData):l.row.toRowW.claim.post args (.bool v_) args=true:=
 postW_of (r:=l.row.toRowW) (X:=(v_==v_))
  (show WShape.has [] (.bool v_) .bool=v_ by first|rfl|decide|simp[WShape.has,WShape.arms,WShape.armsAll])
  (show(WTm.eq .res (.lit (.bool v_))).value [] {args:=args,res:=u_ (.bool v_),after:=args}=u_ (.bool (v_==v_)) from w_eq_bool (w_res rfl) w_lit) rfl
def attach_call {l:OpenLaw}{n:Nat}{q:og}{O:om Str}{XP:(Str->oq o7)->o9->Prop}{YP:oh->o9->Prop}{d:DefRec}
  (hn:l.most=u_ n) (ad:d.params.defaults= [])
  (call:∀(w:oh) (s₀ U:o8) (mg mb:Str->oq o7) (fa:o6) (o:Obj) (pm cd doc:o7) (a:o6) (vs:om o7) (ns:om Int),
   Ground q O [] XP w s₀ mg mb U.heap->YP w U.heap->
   U.heap.get? fa=u_ o->o.data= .func (docDef d.name d.params d.body d.scope pm cd doc)->U.heap.CodeRec cd d.name->mg d.name=u_ (.ref fa)->
   U.heap.get? a=u_ {cls:= .type "list",data:= .seq vs.toArray}->GB vs ns->↑ns<=n->U.gens= #[]->
   VR (Vz l.prog w) G7 (.call (.ref fa) [[.ref a]:[]]) (λr s'=>r= .ok (.ret (.bool v_))/\OldK U.heap s'.heap/\s'.os=U.os/\V_ s'.gens) U):
  WalkO q O XP YP l.row.toRowW d [] (λf vs=>PySem.call f vs):=by
 intro w s₀ U mg mb G Y fa o pm cd doc dV kV ho hd ae hD af hg args ag as hpre hlay hrd hwl hlo;obtain rfl:dV= .none:=Dflts.none hD ad;obtain rfl:kV= .none:=Dflts.noKw hD;erw[Dk hn hpre hwl,a,vs,ns,rfl,rfl,aa,Z,ac];refine enter_call (tm (call w s₀ U mg mb fa o pm cd doc a vs ns G Y ho (fd_plain hd) ae af aa Z ac hg) λr s' hq=>?_);erw[hq,rfl,h2,h3,h4];exact⟨.inl ⟨.bool v_,.bool v_,[],1,λ_=>rfl,.bool v_,Dt l _,λ_=>[tV:λ_ hm=>(nomatch hm)]⟩,h2,h3,h4⟩
end Att
namespace L2
open PySem PySem.Spec PyProof.Rows
def nA:∀{vs:om o7}{ns:om Int},GB vs ns->iq (ns.map V.int) vs
 |_,_,.nil=> .nil
 |_,_,.cons n t h=> .cons [t:1] (nA h)
nonrec def Ab5 (H:Hp):Prop:=∀b,H b=U_∨∃o xs,H b=u_ (.frz o (.lst xs))
def LQ {P:og}{w:oh}{K:o0}{mg mb:Str->oq o7}{CX:CXT}{k:Nat}{fa a:o6}{fd:Vk}{x:Str}{sp:Sp}{O:o8}{vs:om o7}{ns:om Int}
  (KX:K.In O.heap) (ae:O.heap.Ns VG mg) (Z:O.heap.Ns Ta mb) (am:∀x:Str,x≠"__name__"->mb x=Gf x) (af:O.heap.NoLimit) (hg:O.gens= #[])
  (ha:O.heap.get? a=u_ {cls:= .type "list",data:= .seq vs.toArray}) (hi:GB vs ns) (hl:↑ns<=Vl) (hr:mG k G7)
  (F:∀base:o9,K.In base->base.Ns VG mg->FnOk P w K mg base CX k fa fd [x] sp) (ad:∀(s:o8) (u:o7),GN s fd [[u]:[]] [(x,u)])
  (ag:fd.scope.names.lookup x=u_ .local) (ao:∀H:Hp,Ab5 H->SqL K H a (ns.map V.int)->sp [.ref a] H (λv _=>v= .bl v_) λ_ _ _=>False)
  (ap:∀H e s',CX [] H O (λ_ _ _=>False) e s'->False):
  VR (Vz P w) G7 (.call (.ref fa) [[.ref a]:[]]) (λr s'=>r= .ok (.ret (.bool v_))/\OldK O.heap s'.heap/\s'.os=O.os/\V_ s'.gens) O:=by
 have rv:=nA hi;have ah:=↑hi;have ac:∀H:Hp,Ab5 H->SqL K H a (ns.map V.int)->HOk P w H O.heap->(∀b,H b≠U_->b=a)->(H a≠U_->K.lookup a=U_)->
   VR (Vz P w) G7 (.call (.ref fa) [[.ref a]:[]]) (λr s'=>r= .ok (.ret (.bool v_))/\OldK O.heap s'.heap/\s'.os=O.os/\V_ s'.gens) O:=by
  intro H hO hS hok hA hK;have U:∀{b:o6}{o:Obj},O.heap.get? b=u_ o->H b=U_->(LZ O.heap H).get? b=u_ o:=λe n=>LY e n;have aq:∀{b:o6}{o:Obj}{es:Array GS}{ep:Nat},O.heap.get? b=u_ o->o.data= .dict es ep->H b=none:=λ{b o es ep} e d=>by
   cases q:H b with
   |none=>rfl
   |some u=>
    have e':b=a:=hA b (by rw[q];simp)
    subst e';rw[ha] at e;cases e;have d':Data.seq vs.toArray _=Data.dict es ep:=d;cases d'
  have aa:∀{b:o6}{m:Str->oq o7},O.heap.Ns b m->(LZ O.heap H).Ns b m:=λ{b m} ⟨o,es,ep,e,d,r⟩=>⟨o,es,ep,U e (aq e d),d,r⟩;have ak:K.In (LZ O.heap H):=λb o e=>U (KX b o e) (by
   cases q:H b with
   |none=>rfl
   |some u=>
    have e':b=a:=hA b (by rw[q];simp)
    subst e';rw[hK (by rw[q];simp)] at e;cases e)
  have hM:Mod K mg (LZ O.heap H):=⟨ak,aa ae,[mb:aa Z:am],let⟨mc,h1,h2⟩:=af;[mc:aa h1:h2]⟩;have e0:ST P w K mg (LZ O.heap H) G7 [] O H:=⟨1,hM,λb o e=>Py e,rY (EI _ _),trivial,λb Z=>Aa (show b∈([]:om o6) from Z) (by simp),hok,.of_eq hg⟩
  refine tm ((F _ ak (aa ae)).run G7 [] O H [[.ref a]:[]] [.ref a] [.ref a] _ _ hr e0 (ad O (.ref a)) (.cons rfl .nil) (ao H hO hS) (.inr [_:0:ag])) λr s' h=>?_;cases r with
  |error e=>exact(ap H e s' h).elim
  |ok fl=>
   cases fl with
   |next=>exact VN h
   |brk=>exact VN h
   |cont=>exact VN h
   |ret u=>
    erw[h,v,H',os,bare,htk,un,al,r',q];have q':v= .bl true:=q;subst q';obtain rfl:u=tj true:=r';exists 1,OldK.of_keep λb o e=>?_,os,bare;cases q:H b with
    |none=>exact un.keep b o e q (by intro z;exact Aa (show b∈([]:om o6) from z) (by simp)) (by simp)
    |some u=>
     rcases hO b with z|⟨ob,xs,z⟩
     ·rw[q] at z;cases z
     ·have z2:=un.frzs b ob _ z;erw[hok b _ z,e1,_];erw[al b _ z2,e2,_];rw[e] at e1;cases e1;exact e2
 cases hk:K.lookup a with
 |some o=>
  have e:=KX a o hk;rw[ha] at e;cases e;refine ac (λ_=>U_) (λ_=> .inl rfl) (.inr ⟨_,vs.toArray,_,hk,1,1,1,by rwa[ui,ah],by simpa using rv⟩) (λb u z=>by have z':(U_:oq HO)=u_ u:=z;cases z') (λb z=>Aa rfl z) λz=>Aa rfl z
 |none=>
  refine ac (λb=>if b=a then u_ (.frz {cls:= .type "list",data:= .seq vs.toArray} (.lst (ns.map V.int))) else U_) (λb=>?_) (.inl (.inr [{cls:= .type "list",data:= .seq vs.toArray}:A6 rfl])) (λb u z=>?_) (λb z=>?_) λ_=>hk
  ·by_cases Z:b=a
   ·exact .inr [_:_:A6 Z]
   ·exact .inl (A4 Z)
  ·by_cases Z:b=a
   ·have z':=(A6 Z).symm.trans z;cases z';subst Z;exact⟨ha,by rwa[u9],vs,_,rv,ha⟩
   ·have z':=(A4 Z).symm.trans z;cases z'
  ·by_cases Z:b=a
   ·exact Z
   ·exact Aa (A4 Z) z
noncomputable abbrev KOf {K:o0}{h:o9}(_:K.In h):o0:=K
def Nw {l:PySem.W.OpenLaw}{n k:Nat}{q:og}{U:om Str}{XP:(Str->oq o7)->o9->Prop}{YP:oh->o9->Prop}{d:DefRec}{K:HY->o0}{CX:oh->CXT}{sp:oh->Sp}{x:Str}
  (hn:l.most=u_ n) (ad:n<=Vl) (ae:d.params.defaults= []) (hr:mG k G7)
  (hY:∀(w:oh) (h:o9),YP w h->(K w.params).In h)
  (F:∀(w:oh) (mg:Str->oq o7) (fa:o6) (h:o9),(K w.params).In h->h.Ns VG mg->mg d.name=u_ (.ref fa)->
   ∃fd:Vk,(∀(s:o8) (u:o7),GN s fd [[u]:[]] [(x,u)])/\fd.scope.names.lookup x=u_ .local/\
    ∀base:o9,(K w.params).In base->base.Ns VG mg->FnOk l.prog w (K w.params) mg base (CX w) k fa fd [x] (sp w))
  (af:∀(w:oh) (H:Hp) (a:o6) (ns:om Int),↑ns<=n->Ab5 H->SqL (K w.params) H a (ns.map V.int)->sp w [.ref a] H (λv _=>v= .bl v_) λ_ _ _=>False)
  (ag:∀(w:oh) (H:Hp) (s:o8) (e:o7) (s':o8),CX w [] H s (λ_ _ _=>False) e s'->False):
  PySem.W.WalkO q U XP YP l.row.toRowW d [] (λf vs=>PySem.call f vs):=by
 refine Att.attach_call hn ae λw s₀ s₁ mg mb fa o pm cd doc a vs ns G Y ho hd ak ah aa Z O hg=>?_;have KX:=hY w _ Y;erw[F w mg fa _ KX G.T.g ah,fd,hb,ac,hF];exact LQ KX G.T.g G.T.b G.T.builtins G.T.nolimit hg aa Z (uL O ad) hr hF hb ac (λH hO hS=>af w H a ns O hO hS) λH e s'=>ag w H s₁ e s'
def IJ {l:PySem.W.OpenLaw}{n k:Nat}{q:og}{O:om Str}{XP:(Str->oq o7)->o9->Prop}{YP:oh->o9->Prop}{d:DefRec}{K:HY->o0}{CX:CXT}{sp:o0->Sp}{x:Str}
  (hn:l.most=u_ n) (U:n<=Vl) (Z:d.params.defaults= []) (hr:mG k G7)
  (hY:∀(w:oh) (h:o9),YP w h->(K w.params).In h)
  (F:∀(w:oh) (mg:Str->oq o7) (fa:o6) (h:o9),(K w.params).In h->h.Ns VG mg->mg d.name=u_ (.ref fa)->
   ∃fd:Vk,(∀(s:o8) (u:o7),GN s fd [[u]:[]] [(x,u)])/\fd.scope.names.lookup x=u_ .local/\
    ∀base:o9,(K w.params).In base->base.Ns VG mg->FnOk l.prog w (K w.params) mg base CX k fa fd [x] (sp (K w.params)))
  (aa:∀(K:o0) (H:Hp) (a:o6) (ns:om Int),↑ns<=n->Ab5 H->SqL K H a (ns.map V.int)->sp K [.ref a] H (λv _=>v= .bl v_) λ_ _ _=>False)
  (ac:∀(H:Hp) (s:o8) (e:o7) (s':o8),CX [] H s (λ_ _ _=>False) e s'->False):
  PySem.W.WalkO q O XP YP l.row.toRowW d [] (λf vs=>PySem.call f vs):=
 Nw (K:=K) (CX:=λ_=>CX) (sp:=λw=>sp (K w.params)) hn U Z hr hY F (λw H a ns h1 h2 h3=>aa (K w.params) H a ns h1 h2 h3) λ_ H s e s'=>ac H s e s'
nonrec def Qm (s:Stmt)(j:Nat):Stmt:=match s with
 | .ClassDef _ _ _ body _ _ _ _ _ _ _=>body.getD j (.Pass ⟨(0),(0),(0),(0)⟩)
 |_=> .Pass ⟨(0),(0),(0),(0)⟩
nonrec def YH (s:Stmt):Arguments:=match s with
 | .FunctionDef _ a _ _ _ _ _ _ _ _=>a
 |_=>{posonlyargs:= [],args:= [],vararg:=U_,kwonlyargs:= [],kw_defaults:= [],kwarg:=U_,defaults:= []}
nonrec def yY (s:Stmt):om Stmt:=match s with
 | .FunctionDef _ _ b _ _ _ _ _ _ _=>b
 |_=> []
nonrec def qq (s:Stmt):Scope:=match s with
 | .FunctionDef _ _ _ _ _ _ sc _ _ _=>sc
 |_=>{kind:= .function,names:= [],isGenerator:=Vh,isCoroutine:=Vh}
noncomputable abbrev CX0:CXT:=λ_ _ _ _ _ _=>False
noncomputable abbrev E0:XK:=λ_ _ _=>False
variable {X:Cx}
def qH:zq CX0 X E0:=λ_ _ _ _ _ _ _ h=>h.elim
structure Fun (K:o0)(x qual:Str)(st:Stmt)(f:o6)(fd:Vk):Prop where
 ex:∃(oc:o7) (od:oq o6) (kV doc pm:o7) (an:oq o6) (cdv ct:o7) (osl:Array (oq o7)),
  fd=PySem.W.fnOf x qual (YH st) (yY st) (qq st) .none kV doc pm an cdv ct/\K.lookup f=u_ ⟨oc,od,.func fd,osl⟩/\PySem.W.codeIn K cdv qual=v_
 kp:PySem.W.keepIn K (.ref f)=v_
section
variable {P:og}{w:oh}{K:o0}{mg:Str->oq o7}{base:o9}
def Fun.ok {x qual:Str}{st:Stmt}{f:o6}{fd:Vk}{N ps:om Str}{k:Nat}{sp:Sp}(F:Fun K x qual st f fd)(S:qz N ps (qq st))(len:∀vs H Q E,sp vs H Q E->↑vs=↑ps)
  (O:∀(cdv:o7) (A:oj) (outer:om Env) (s:o8) (H:Hp) (vs:om V) (Q:VK) (E:XK),mG k (A.deeper (Vp qual (qq st) #[0,s] f cdv))->sp vs H Q E->
   ∃t,PSs (cxOf CX0 P w K mg base N qual (qq st) f cdv A outer s H E).nox (yY st) t/\t {nx:=λ_ H'=>Q .non H',rt:=Q} (qab N vs) H):FnOk P w K mg base CX0 (k+1) f fd ps sp:=by
 erw[F.ex,oc,od,kV,doc,pm,an,cdv,ct,osl,rfl,lk,U];refine Abl lk U S len λA outer s H vs Q E hr Z=>?_;erw[O cdv A outer s H vs Q E hr Z,t,h,q];exact[t:h.nox:q]
def Fun.binds {x qual:Str}{st:Stmt}{f:o6}{fd:Vk}{ps:om Str}(F:Fun K x qual st f fd)
  (h:∀(kV doc pm:o7) (an:oq o6) (cdv ct:o7) (us:om o7),↑us=↑ps->Gb (PySem.W.fnOf x qual (YH st) (yY st) (qq st) .none kV doc pm an cdv ct) [us:[]]=pure (ps.zip us)):zG K fd ps []:=by
 erw[F.ex,oc,od,kV,doc,pm,an,cdv,ct,osl,rfl,lk,O];exact .all (h kV doc pm an cdv ct)
def Nd {x qual:Str}{st:Stmt}{f:o6}{oc:o7}{od an:oq o6}{osl:Array (oq o7)}{kV doc pm cdv ct:o7}(l:K.lookup f=u_ ⟨oc,od,.func (PySem.W.fnOf x qual (YH st) (yY st) (qq st) .none kV doc pm an cdv ct),osl⟩)
  (c:PySem.W.codeIn K cdv qual=v_) (k:PySem.W.keepIn K (.ref f)=v_):Fun K x qual st f (PySem.W.fnOf x qual (YH st) (yY st) (qq st) .none kV doc pm an cdv ct):=[⟨oc,od,kV,doc,pm,an,cdv,ct,osl,1,l,c⟩:k]
end
variable {A:oj}
def Qs {k:Nat}(O:mG k A):A.units+1<cLine:=vV (Nat.add_le_add_left (by decide:1<=64) _) O.units
variable {n:Nat}
def XT (h:n<=1000):n<sizeLine:=vV h ()
section
variable {X:Cx}
def pv (i:Nat){x:Str}{pos:Pos}(U:X.N[i]? =u_ x:=by rfl)(Z:Vis X.env.scope x:=by first|exact G9 rfl|exact VV (G9 rfl)|exact VV (VV rfl))(hd:(x==("__debug__":Str))=false:=by decide)
  (O:(x==("__classdict__":Str))=false:=by decide):PE X (.Name x pos) (S5 i):=AaC U Z hd O
def Ip:Yv X (.builtin "len") (λxs H Q=>∃a kvs,xs= [V.ref a]/\H a=u_ (.dK kvs)/\Q (.int ↑kvs) H):=by
 exists 2,xs,us,Q,I,r,h;erw[h,a,kvs,rfl,ha,q];erw[jQ r,u,rfl,ru];cases ru;exact Ac9 I (.inl ha) λt s' O=>⟨.int ↑kvs,H,O,[t:1],q⟩
end
def iW {A B:Prop}(h:B):if Vh=v_ then A else B:=by
 rw[A4 ua];exact h
def lj {A B:Prop}(h:A):if v_=v_ then A else B:=by
 rw[A6 rfl];exact h
def li {c A B:Prop}[Decidable c](h1:c->A)(h2:¬c->B):if c then A else B:=by
 by_cases h:c
 ·rw[A6 h];exact h1 h
 ·rw[A4 h];exact h2 h
nonrec def ie (H H':Hp):Prop:=∀b o,H b=u_ o->H' b=u_ o
def ie.refl (H:Hp):ie H H:=λ_ _ h=>h
variable {H H1 H2:Hp}
def ie.trans (a:ie H H1)(b:ie H1 H2):ie H H2:=λc o h=>b c o (a c o h)
variable {H':Hp}
def ie.free (e:ie H H'){l:o6}(h:H' l=Option.none):H l=Option.none:=by
 cases q:H l with
 |none=>rfl
 |some o=>
  rw[e l o q] at h;cases h
section
variable {κ:Type}[DecidableEq κ]
variable {kvs:om (κ×V)}{v:V}
def NA {k:κ}(h:iR kvs k=u_ v):k∈kvs.map (·.1):=by
 have q:(kvs.any λkv=>decide (kv.1=k))=true:=by
  rw[xm,h]
  all_goals rfl
 erw[List.any_eq_true.mp q,p,O,e];exact Ag.mpr [p:O:um e]
def E6 {p:κ×V}{r:om (κ×V)}{k:κ}(e:p.1=k):JK (p::r) k=JK r k:=by
 unfold JK;rw[vW,A4 (by simp[e])]
def E7 {p:κ×V}{r:om (κ×V)}{k:κ}(e:¬p.1=k):JK (p::r) k=p::JK r k:=by
 unfold JK;rw[vW,A6 (by simp[e])]
end
end L2
namespace L2
open PySem
inductive D where
 |non|bl (b:Bool)|int (i:Int)|str (z:Str)|lst|dct|tup (xs:List D)
nonrec def QJ (c:Nat):Bool:=decide (32<=c)&&decide (c<=126)&&decide (c≠37)
nonrec def Qz (z:Str):Bool:=decide (↑z<=300)&&z.cps.toList.all QJ
mutual
noncomputable def iO:D->Bool
 | .str z=>Qz z
 | .tup xs=>decide (↑xs<=40)&&goodL xs
 |_=>Vh
noncomputable def goodL:om D->Bool
 | []=>v_
 |x::r=>iO x&&goodL r
end
mutual
noncomputable def sz:D->Nat
 | .str z=>↑z+1
 | .tup xs=>1+szL xs
 |_=>0
noncomputable def szL:om D->Nat
 | []=>0
 |x::r=>sz x+szL r
end
mutual
noncomputable def dp:D->Nat
 | .str _=>1
 | .tup xs=>1+dpL xs
 |_=>0
noncomputable def dpL:om D->Nat
 | []=>0
 |x::r=>max (dp x) (dpL r)
end
mutual
noncomputable def nd:D->Nat
 | .tup xs=>1+ndL xs
 |_=>1
noncomputable def ndL:om D->Nat
 | []=>0
 |x::r=>nd x+ndL r
end
nonrec def isT (d:D):Bool:=iO d&&decide (sz d<=600)&&decide (dp d<=12)
def Zh:∀(xs ys:om D),szL (xs++ys)=szL xs+szL ys
 | [],ys=>by simp[szL]
 |x::r,ys=>by simp![U4,szL,Zh r ys];omega
def zS:∀(xs ys:om D),ndL (xs++ys)=ndL xs+ndL ys
 | [],ys=>by simp[ndL]
 |x::r,ys=>by simp![U4,ndL,zS r ys];omega
def zr {k:Nat}:∀(xs:om D),dpL xs<=k↔∀x∈xs,dp x<=k
 | []=>by simp[dpL]
 |x::r=>by
  have U:=zr (k:=k) r;have e:dpL (x::r)=max (dp x) (dpL r):=by simp![dpL]
  rw[e];constructor
  ·intro h y O;rcases Ac.mp O with rfl|O
   ·omega
   ·exact U.mp () y O
  ·intro h;have h1:=h x ue;have h2:=U.mpr λy O=>h y (uc _ O);omega
def Abs {d:D}(h:iO d=v_):1<=dp d:=by
 cases d<;>simp_all [iO,dp]
nonrec def wOk (w:om (D×Nat)):Bool:=w.all λp=>iO p.1&&decide (p.2+dp p.1<=13)
nonrec def wSz (w:om (D×Nat)):Nat:=szL (w.map (·.1))
nonrec def G (w:om (D×Nat))(n:Nat):Bool:=wOk w&&decide (n+wSz w<=600)
def SQ (d:D):G [(d,1)] 0=isT d:=by
 simp![G,wOk,wSz,isT,vx,R6,ur,Uk,szL,Um,HC,rh];have e:decide (1+dp d<=13)=decide (dp d<=12):=by
  rw[uZ];omega
 rw[e];cases iO d<;>cases decide (sz d<=600)<;>cases decide (dp d<=12)<;>rfl
variable {n:Nat}
def Adq (h:n<=600):G [] n=true:=by simp[G,wOk,wSz,szL,h]
def sK (w:om (D×Nat))(d:D)(k n:Nat):G (w++ [(d,k)]) n=(wOk w&&(iO d&&decide (k+dp d<=13))&&decide (n+(wSz w+sz d)<=600)):=by
 simp![G,wOk,wSz,V3,vx,R6,Um,uh,ur,Uk,Zh,szL,rh]
 rfl
def SR {w:om (D×Nat)}{d:D}{k:Nat}(h:iO d=Vh):G (w++ [(d,k)]) n=false:=by
 rw[sK,h];simp
def Nu {w:om (D×Nat)}{d:D}{k:Nat}(h:12<k):G (w++ [(d,k)]) n=false:=by
 rw[sK];cases O:iO d with
 |false=>simp
 |true=>
  have:=Abs O;have e:decide (k+dp d<=13)=false:=ub ()
  rw[e];simp
def Ab0 {w:om (D×Nat)}{d:D}{k:Nat}(h:600<n+sz d):G (w++ [(d,k)]) n=false:=by
 rw[sK];have e:decide (n+(wSz w+sz d)<=600)=false:=ub ()
 rw[e];simp
def AbZ {w:om (D×Nat)}{xs:om D}{k:Nat}(h:600<n+1):G (w++ [(.tup xs,k)]) n=false:=Ab0 (by simp![sz];omega)
def Ny (xs:om D)(k:Nat):wOk (xs.map λx=>(x,k+1))=(goodL xs&&xs.all λx=>decide (k+1+dp x<=13)):=by
 induction xs with
 |nil=>rfl
 |cons x r O=>
  simp![ur,wOk,vx,goodL] at O⊢;rw[O];cases iO x<;>cases decide (k+1+dp x<=13)<;>cases goodL r<;>simp
def Nx (xs:om D)(k:Nat):wSz (xs.map λx=>(x,k+1))=szL xs:=by
 unfold wSz;rw[uN]
 congr 1
 induction xs with
 |nil=>rfl
 |cons x r O=>simp![ur,O];rfl
def Ado {w:om (D×Nat)}{xs:om D}{k:Nat}(U:↑xs<=40)(hk:k<=12):G (w++ [(.tup xs,k)]) n=G (w++xs.map λx=>(x,k+1)) (n+1):=by
 rw[sK];unfold G;have Z:wOk (w++xs.map λx=>(x,k+1))=(wOk w&&wOk (xs.map λx=>(x,k+1))):=by unfold wOk;rw[V3]
 have e2:wSz (w++xs.map λx=>(x,k+1))=wSz w+szL xs:=by
  have:=Nx xs k;unfold wSz at this⊢;rw[uh,Zh,this]
 have e3:decide (k+dp (.tup xs)<=13)=xs.all λx=>decide (k+1+dp x<=13):=by
  have q:=zr (k:=12-k) xs;have e0:dp (.tup xs)=1+dpL xs:=by simp![dp]
  rw[e0,vC];constructor
  ·intro h;have h:=um h;refine List.all_eq_true.mpr λx O=>A9 ?_;have h2:=q.mp () x O
   omega
  ·intro h;refine A9 ?_;have h2:=q.mpr λx O=>by
    have h3:=um (List.all_eq_true.mp h x O);omega
   omega
 rw[Z,e2,e3,Ny];have e4:iO (.tup xs)=goodL xs:=by simp![iO,A9 U,HH]
 have e5:decide (n+(wSz w+sz (.tup xs))<=600)=decide (n+1+(wSz w+szL xs)<=600):=by
  rw[uZ];simp![sz];omega
 rw[e4,e5]
variable {z:Str}
def Adp {w:om (D×Nat)}{k:Nat}(O:Qz z=v_)(hk:k<=12):G (w++ [(.str z,k)]) n=G w (n+(1+↑z)):=by
 rw[sK];unfold G;have U:iO (.str z)=true:=by simp![iO,O]
 have Z:decide (k+dp (.str z)<=13)=true:=A9 (by simp![dp];omega)
 have e5:decide (n+(wSz w+sz (.str z))<=600)=decide (n+(1+↑z)+wSz w<=600):=by
  rw[uZ];simp![sz];omega
 rw[U,Z,e5];simp
end L2
namespace AwZ
open PySem PyProof.Rows
open PySem.AutoSeq1 (wpAny_loadPart')
section
variable {prog:og}{w:oh}{A:oj}{E:o7->o8->Prop}{s:o8}
def Acg {j t:o6}{i:Nat}{its:Array o7}{x:o7}{Q:o7->o8->Prop}(U:s.heap.IsTupleIter j t i)(gt:s.heap.IsTuple t its)(gx:its[i]? =u_ x)
  (q:∀h2,h2.IsTupleIter j t (i+1)->GZ j s.heap h2->Q x {s with heap:=h2}):Vi #[w,w] A (GF (.ref j)) Q E s:=by
 erw[id U,u,O,cu,du];erw[gt,ut,Z,_,nt,aa];unfold GF;refine A8 (vE (name:=Gr "__next__") U.typeIs U3
  (vH U3 U.typeIs F.entry_tuple_iterator_next ?_ (F.args_tuple_iterator_next_1 _)))
 show Vi _ _ (Gg (.ref j) 0>>=_) _ _ s;refine A8 (vD O du (x:= .ref t) rfl ?_);show Vi _ _ (if(Vo t==gS)=v_ then _ else _) _ _ s
 rw[A4 (show¬(Vo t==gS)=v_ from ua)]
 show Vi _ _ (Gg (.ref j) 1>>=_) _ _ s;refine A8 (vD O du (x:= .int i 0) rfl ?_);show Vi _ _ (tR (.ref t)>>=_) _ _ s;refine A8 (Ua Z aa ?_);simp![tL,gx];refine A8 (FN O du (by simp) (uz [x:1:uz (q _ ?_ (RB ..))]))
 exact⟨_,HU _ O (Obj.isFreed_of_fields (R_ du _)),(Obj.cls_mapFields ..).trans cu,by rw[R_ du];simp[G6]⟩
def CL {j t:o6}{i:Nat}{its:Array o7}{Q:o7->o8->Prop}(hh:A.handled=U_)(O:s.heap.IsTupleIter j t i)(gt:s.heap.IsTuple t its)(gx:its[i]? =U_)
  (q:∀h2 e,Heap.ExtBut j s.heap h2->(∃u,h2.get? e=u_ u/\u.cls= .type "StopIteration")->E (.ref e) {s with heap:=h2}):Vi #[w,w] A (GF (.ref j)) Q E s:=by
 erw[id O,u,U,cu,du];erw[gt,ut,Z,_,nt,aa];unfold GF;refine A8 (vE (name:=Gr "__next__") O.typeIs U3
  (vH U3 O.typeIs F.entry_tuple_iterator_next ?_ (F.args_tuple_iterator_next_1 _)))
 show Vi _ _ (Gg (.ref j) 0>>=_) _ _ s;refine A8 (vD U du (x:= .ref t) rfl ?_);show Vi _ _ (if(Vo t==gS)=v_ then _ else _) _ _ s
 rw[A4 (show¬(Vo t==gS)=v_ from ua)]
 show Vi _ _ (Gg (.ref j) 1>>=_) _ _ s;refine A8 (vD U du (x:= .int i 0) rfl ?_);show Vi _ _ (tR (.ref t)>>=_) _ _ s;refine A8 (Ua Z aa ?_);simp![tL,gx];refine A8 (V6 (A8 (FN U du (by simp) ?_)))
 show Vi _ _ (newExc (.type "StopIteration") []>>=_) _ _ _;refine A8 ?_;simp![newExc,newTuple];refine A8 (vA ?_ (by size_fits))
 refine A8 (m:=Td _ _) (Fq (a:=gS) (by first|rfl|(simp![Td];rfl)) ?_)
 refine vA ?_ (by size_fits)
 simp![raiseNew];refine A8 (wpAny_handled ?_)
 first|rw[show A.in1.handled=U_ from hh]|rw[hh]
 refine A8 (uz (Fw ?_));exact q _ _ (((RB ..).extBut.push _).push _) [_:uE _ rfl:1]
structure Apt (z p r i j a b:o6):Prop where
 pz:p≠z
 rz:r≠z
 iz:i≠z
 jz:j≠z
 pr:p≠r
 pi:p≠i
 pj:p≠j
 ri:r≠i
 rj:r≠j
 ij:i≠j
 az:a≠z
 ar:a≠r
 ai:a≠i
 aj:a≠j
 bz:b≠z
 br:b≠r
 bi:b≠i
 bj:b≠j
def Aca {z p r i j a b:o6}{k:Nat}{xs ys:Array o7}{x y u v:o7}{Q:o7->o8->Prop}(D:Apt z p r i j a b)
  (Z:VL s.heap z p r .none) (hp:Vx s.heap p (.ref i) (.ref j)) (hr:Vx s.heap r u v)
  (hi:s.heap.IsTupleIter i a k) (hj:s.heap.IsListIter j b k) (ha:s.heap.IsTuple a xs) (hb:s.heap.IsList b ys) (hx:xs[k]? =u_ x) (hy:ys[k]? =u_ y)
  (q:∀h2,VL h2 z p r (G6 #[0,s])->Vx h2 r x y->h2.IsTupleIter i a (k+1)->h2.IsListIter j b (k+1)->Vx h2 #[0,s] x y->h2.objs.size=#[0,s]+1->
   (∀c o,c≠z->c≠r->c≠i->c≠j->s.heap.get? c=u_ o->h2.get? c=u_ o)->Q (.ref #[0,s]) {s with heap:=h2}):
  Vi #[w,w] A (Go.«zip.__next__» [[.ref z]:[]]) (λfin t=>∃v,fin= .done (.ret v)/\Q v t) E s:=by
 show Vi _ _ (Gg (.ref z) 2>>=_) _ _ _;refine A8 (vD Z rfl (x:= .bool Vh) rfl ?_);show Vi _ _ (Gg (.ref z) 3>>=_) _ _ _;refine A8 (vD Z rfl (x:= .ref p) rfl ?_);refine A8 (Ua hp rfl ?_);show Vi _ _ (Hw (.ref z)>>=_) _ _ s;refine A8 ?_;unfold Hw;refine A8 (vD Z rfl (x:= .none) rfl (uz ?_));simp![Vg];refine A8 (V6 ?_);refine A8 (vD Z rfl (x:= .ref r) rfl ?_);refine A8 (Uy Z (by simp) λh1 z1 s1=>?_)
 replace z1:VL h1 z p r .ellipsis:=z1
 refine A8 ?_;simp![rD,RM,UD,FL];refine A8 (A8 (T_ ?_));show Vi _ _ (GF (.ref i)>>=_) _ _ _;refine A8 (Acg (hi.extBut s1.extBut D.iz) (ha.extBut s1.extBut D.az) hx λh2 i2 s2=>uz ?_);have r2:Vx h2 r u v:=s2.extBut _ _ D.ri (s1.extBut _ _ D.rz hr);refine A8 (Ua r2 rfl ?_);refine A8 (Rz r2 λh3 r3 U=>?_)
 replace r3:Vx h3 r x v:=r3
 refine A8 (T8 (uz ?_));refine A8 (A8 (T_ ?_));show Vi _ _ (GF (.ref j)>>=_) _ _ _;refine A8 (wpAny_nextOf_list_item (((hj.extBut s1.extBut D.jz).extBut s2.extBut D.ij.symm).extBut U.extBut D.rj.symm)
  (((hb.extBut s1.extBut D.bz).extBut s2.extBut D.bi).extBut U.extBut D.br) hy λh4 j4 s4=>uz ?_)
 have r4:Vx h4 r x v:=s4.extBut _ _ D.rj r3;refine A8 (Ua r4 rfl ?_);refine A8 (Rz r4 λh5 r5 s5=>?_)
 replace r5:Vx h5 r x y:=r5
 refine A8 (T8 (uz (uz ?_)));refine A8 (Ua r5 rfl ?_);refine A8 (wpAny_newTuple ?_);have sz:h5.objs.size=#[0,s]:=by rw[s5.1,s4.1,U.1,s2.1,s1.1]
 have z5:VL h5 z p r .ellipsis:=s5.extBut _ _ D.rz.symm (s4.extBut _ _ D.jz.symm (U.extBut _ _ D.rz.symm (s2.extBut _ _ D.iz.symm z1)));have k5:∀c o,c≠z->c≠r->c≠i->c≠j->s.heap.get? c=u_ o->h5.get? c=u_ o:=λc o O c2 c3 c4 e=>
  s5.extBut _ _ c2 (s4.extBut _ _ c4 (U.extBut _ _ c2 (s2.extBut _ _ c3 (s1.extBut _ _ O e))))
 have i5:h5.IsTupleIter i a (k+1):=((i2.extBut U.extBut D.ri.symm).extBut s4.extBut D.ij).extBut s5.extBut D.ri.symm;have j5:h5.IsListIter j b (k+1):=j4.extBut s5.extBut D.rj.symm;have aa:z<h5.objs.size:=uB z5;show Vi _ _ (rF (.ref z) (.ref h5.objs.size)>>=_) _ _ _;refine A8 ?_;unfold rF;have z6:VL (h5.push {cls:= .type "tuple",data:= .seq #[x,y]}) z p r .ellipsis:=ud _ z5;refine A8 (Uy z6 (by simp) λh7 z7 s7=>?_)
 replace z7:VL h7 z p r (G6 h5.objs.size):=z7
 refine Uy z7 (by simp) λh8 z8 s8=>?_
 replace z8:VL h8 z p r (G6 h5.objs.size):=z8
 have up:∀c o,c≠z->h5.get? c=u_ o->h8.get? c=u_ o:=λc o O e=>s8.extBut _ _ O (s7.extBut _ _ O (ud _ e));have t8:Vx h8 h5.objs.size x y:=s8.extBut _ _ (vZ aa) (s7.extBut _ _ (vZ aa) (uE _ rfl));have n8:h8.objs.size=h5.objs.size+1:=by rw[s8.1,s7.1,vt]
 rw[sz] at z8 t8 n8;refine uz [0:?_];show Q (.ref h5.objs.size) _;rw[sz];exact q h8 z8 (up _ _ D.rz r5) (by erw[i5,o,e,g];exact[o:up _ o D.iz e:g]) (j5.at λo e=>up _ o D.jz e) t8 n8 λc o O c2 c3 c4 e=>up c o O (k5 c o O c2 c3 c4 e)
def zip_go {z p r i j a b:o6}{k:Nat}{xs ys:Array o7}{x y u v:o7}{Q:oq o7->o8->Prop}(D:Apt z p r i j a b)
  (O:VL s.heap z p r .none) (Z:Vx s.heap p (.ref i) (.ref j)) (hr:Vx s.heap r u v)
  (hi:s.heap.IsTupleIter i a k) (hj:s.heap.IsListIter j b k) (ha:s.heap.IsTuple a xs) (hb:s.heap.IsList b ys) (hx:xs[k]? =u_ x) (hy:ys[k]? =u_ y)
  (q:∀h2,VL h2 z p r (G6 #[0,s])->Vx h2 r x y->h2.IsTupleIter i a (k+1)->h2.IsListIter j b (k+1)->Vx h2 #[0,s] x y->h2.objs.size=#[0,s]+1->
   (∀c o,c≠z->c≠r->c≠i->c≠j->s.heap.get? c=u_ o->h2.get? c=u_ o)->Q (u_ (.ref #[0,s])) {s with heap:=h2}):
  Vi #[w,w] A (gZ (.ref z)) Q E s:=by
 have U:s.TypeIs (.ref z) "zip":=[_:O:1];unfold gZ;exact A8 (Hx (vE (name:=Gr "__next__") U F.slot_zip_next
  (vH F.slot_zip_next U F.entry_zip_next (Aca D O Z hr hi hj ha hb hx hy λh2 b1 b2 b3 b4 b5 b6 b7=>uz (q h2 b1 b2 b3 b4 b5 b6 b7)) (F.args_zip_next_1 _))))
def zip_stop {z p r i j a b:o6}{k:Nat}{xs:Array o7}{Q:oq o7->o8->Prop}(hh:A.handled=U_)(D:Apt z p r i j a b)
  (O:VL s.heap z p r .none) (hp:Vx s.heap p (.ref i) (.ref j)) (hi:s.heap.IsTupleIter i a k) (ha:s.heap.IsTuple a xs) (hx:xs[k]? =U_)
  (q:∀h2,(∀c o,c≠z->c≠r->c≠i->c≠j->s.heap.get? c=u_ o->h2.get? c=u_ o)->Q U_ {s with heap:=h2}):Vi #[w,w] A (gZ (.ref z)) Q E s:=by
 have tz:s.TypeIs (.ref z) "zip":=[_:O:1];unfold gZ;refine A8 (Hx (vE (name:=Gr "__next__") tz F.slot_zip_next
  (vH F.slot_zip_next tz F.entry_zip_next ?_ (F.args_zip_next_1 _))))
 show Vi _ _ (Gg (.ref z) 2>>=_) _ _ _;refine A8 (vD O rfl (x:= .bool Vh) rfl ?_);show Vi _ _ (Gg (.ref z) 3>>=_) _ _ _;refine A8 (vD O rfl (x:= .ref p) rfl ?_);refine A8 (Ua hp rfl ?_);show Vi _ _ (Hw (.ref z)>>=_) _ _ s;refine A8 ?_;unfold Hw;refine A8 (vD O rfl (x:= .none) rfl (uz ?_));simp![Vg];refine A8 (V6 ?_);refine A8 (vD O rfl (x:= .ref r) rfl ?_);refine A8 (Uy O (by simp) λh1 U s1=>?_)
 replace U:VL h1 z p r .ellipsis:=U
 refine A8 ?_;simp![rD,RM,UD,FL];refine A8 (A8 (T_ ?_));show Vi _ _ (GF (.ref i)>>=_) _ _ _;refine A8 (CL hh (hi.extBut s1.extBut D.iz) (ha.extBut s1.extBut D.az) hx λh2 e s2 he=>?_);erw[he,oe,Z,ce];have z2:VL h2 z p r .ellipsis:=s2 _ _ D.iz.symm U;have ez:e≠z:=λx=>by subst x;rw[z2] at Z;cases Z;simp at ce
 refine Uy z2 (by simp) λh3 _ s3=>?_
 refine A8 (UP (T:="StopIteration") (b:=v_) [oe:s3.extBut _ _ ez Z:ce] isSubtype_stop ?_);exact uz (q _ λc o c1 _ c3 _ x=>s3.extBut _ _ c1 (s2 _ _ c3 (s1.extBut _ _ c1 x)))
noncomputable abbrev q1 (h:o9)(a:o6):o9:=h.push {cls:= .type "tuple_iterator",data:= .fields #[.ref a,.int 0 0]}
noncomputable abbrev q2 (h:o9)(a b:o6):o9:=(q1 h a).push {cls:= .type "list_iterator",data:= .fields #[.ref b,.int 0 0]}
noncomputable abbrev q3 (h:o9)(a b:o6):o9:=(q2 h a b).push {cls:= .type "tuple",data:= .seq #[.ref h.objs.size,.ref (q1 h a).objs.size]}
noncomputable abbrev q4 (h:o9)(a b:o6):o9:=(q3 h a b).push {cls:= .type "tuple",data:= .seq #[.none,.none]}
noncomputable abbrev q5 (h:o9)(a b:o6):o9:=(q4 h a b).push {cls:= .type "zip",data:= .fields #[.none,.bool Vh,.bool Vh,.ref (q2 h a b).objs.size,.ref (q3 h a b).objs.size]}
def IF (a b:o6)(xs ys:Array o7):Meets (Go.«zip.__new__» [[.type "zip",.ref a,.ref b]:[]]) (λ_ R s=>s.heap.IsTuple a xs/\s.heap.IsList b ys/\R (.ok (.ret (.ref (q4 s.heap a b).objs.size))) {s with heap:=q5 s.heap a b}):=
 .of_wp λprog w A R s h=>by
  erw[s,O,g,d,tk,os];erw[h,ha,U,h];have sub:=sub_zip;have h1:Heap.IsTuple (rn ⟨O,g,d,tk,os⟩) a xs:=ha;have h2:Heap.IsList (rn ⟨O.push {cls:= .type "tuple_iterator",data:= .fields #[.ref a,.int 0 0]},g,d,tk,os⟩) b ys:=pP U _
  wp_walk using T4 h1,V5 h2
  exact[0:h]
def zip_call {a b:o6}{xs ys:Array o7}{Q:o7->o8->Prop}(ha:s.heap.IsTuple a xs)(hb:s.heap.IsList b ys)
  (h:∀h2,VL h2 (#[0,s]+4) (#[0,s]+2) (#[0,s]+3) .none->Vx h2 (#[0,s]+2) (.ref #[0,s]) (.ref (#[0,s]+1))->
   Vx h2 (#[0,s]+3) .none .none->h2.IsTupleIter #[0,s] a 0->h2.IsListIter (#[0,s]+1) b 0->h2.objs.size=#[0,s]+5->
   (∀c o,s.heap.get? c=u_ o->h2.get? c=u_ o)->Q (.ref (#[0,s]+4)) {s with heap:=h2}):Vi #[w,w] A (call (.type "zip") [.ref a,.ref b]) Q E s:=by
 refine callType_new F.called_zip () (F.typeCall_zip_2 _ _) (F.newCall_zip_2 _ _) (λobj=>F.args_object_init_3 obj _ _) F.entry_zip_new (IF a b xs ys) [ha:hb:?_]
 have O:(q1 s.heap a).objs.size=#[0,s]+1:=vt ..;have U:(q2 s.heap a b).objs.size=#[0,s]+2:=by rw[vt,O]
 have Z:(q3 s.heap a b).objs.size=#[0,s]+3:=by rw[vt,U]
 have z4:(q4 s.heap a b).objs.size=#[0,s]+4:=by rw[vt,Z]
 have z5:(q5 s.heap a b).objs.size=#[0,s]+5:=by rw[vt,z4]
 have g5:(q5 s.heap a b).get? (q4 s.heap a b).objs.size=u_ _:=uE _ rfl;have g4:(q5 s.heap a b).get? (q3 s.heap a b).objs.size=u_ _:=ud _ (uE _ rfl);have g3:(q5 s.heap a b).get? (q2 s.heap a b).objs.size=u_ _:=ud _ (ud _ (uE _ rfl));have g2:(q5 s.heap a b).get? (q1 s.heap a).objs.size=u_ _:=ud _ (ud _ (ud _ (uE _ rfl)));have g1:(q5 s.heap a b).get? #[0,s]=u_ _:=ud _ (ud _ (ud _ (ud _ (uE _ rfl))));show _/\_;rw[U,Z,z4] at g5;rw[O,U] at g3;rw[Z] at g4;rw[O] at g2;rw[z4];exact[[_:g5:1]:h _ g5 g3 g4 ⟨_,g1,1,1⟩ ⟨_,g2,1,1⟩ z5 λc o x=>ud _ (ud _ (ud _ (ud _ (ud _ x))))]
end
end AwZ
namespace L2
open PySem PySem.Spec PyProof.Rows
nonrec def Its (x:Str):It:=⟨λi _=>i<x.cps.size,λi H v H'=>H'=H/\∃c,x.cps[i]? =u_ c/\v= .str ⟨#[c]⟩,λi _=>i=x.cps.size⟩
variable {w:oh}{K:o0}{tg:Expr}{x:Str}
def AH {P:og}{t:Tok}{it:o6}(ty:String)(O:ty="str_ascii_iterator"∨ty="str_iterator"):
  Np P w K tg (Its x) [it] it (λi h=>h.IsStrIter it ty x t i) where
 mem:=by simp
 obj:=λi h st b U=>by
  have e:b=it:=by simpa using U
  subst e;erw[st,o,e,c,d];exact⟨o,e,λv z=>by rw[d] at z;cases z⟩
 keep:=λi h h' st k=>by
  erw[st,o,e,r];exact⟨o,k it (by simp) o e,r⟩
 item:=by
  intro X hP hw hK Z i ot s σ H E I hf st hg;subst hP hw hK;obtain⟨f0,f1,f2,f3,f4,f5⟩:=hf it (by simp)
  have W:Walks X.prog X.w X.A it [it] [it] x.cps.size (SignAt x) (λi h=>h.IsStrIter it ty x t i):=by
   rcases O with rfl|rfl
   ·exact FH (I.ok.hd Z) it x t
   ·exact pk (I.ok.hd Z) it x t
  refine uX (n:=1) I.tk (W.item i s _ _ hg st λv h' tk hv aa kk=>?_);intro htk;erw[hv,c,u,hx,rfl];have I1:Inv X ot σ H {s with heap:=h',toks:=tk}:=I.turned (λb o U e=>kk b o (by simpa using U) e) f0 f1 f3 f4 f5
  erw[id aa,o,e,c',d];refine⟨0,Cs (s:={s with heap:=h',toks:=tk}) e c' d (by rcases O with rfl|rfl<;>decide) ⟨.str ⟨#[c]⟩,H,I1,[u:1],⟨1,c,hx,1⟩,aa,λb U=>(hf b U).1⟩⟩
 done:=by
  intro X hP hw hK Z i ot s σ H E I hf st hg;subst hP hw hK;have ac:i=x.cps.size:=hg;subst ac;obtain⟨f0,f1,f2,f3,f4,f5⟩:=hf it (by simp)
  have W:Walks X.prog X.w X.A it [it] [it] x.cps.size (SignAt x) (λi h=>h.IsStrIter it ty x t i):=by
   rcases O with rfl|rfl
   ·exact FH (I.ok.hd Z) it x t
   ·exact pk (I.ok.hd Z) it x t
  exact uX (n:=1) I.tk (W.done s _ _ st λh' tk kk htk=>⟨1,I.turned (λb o U e=>kk b o (by simpa using U) e) f0 f1 f3 f4 f5⟩)
 self:=λ_ _ _ _ _ st h=>by
  rcases O with rfl|rfl
  ·exact wpAny_pyIter_striter_ascii st h
  ·exact wpAny_pyIter_striter_wide st h
section
variable {X:Cx}{tg:Expr}
inductive Adn (R:(It->Hp->Prop))(x:V)(H1:Hp):Prop
 |mk (z:_)(_:x= .str z)(_:R (Its z) H1)
nonrec def Aee (tl:TE):TI:=λσ H R=>tl σ H λx H1=>Adn R x H1
def MH {l:Expr}{tl:TE}(U:PE X l tl):PI X tg l (Aee tl):=by
 exists 2,R,I,h;refine thn (U ot s σ H _ I h) λv s1 zq=>?_;erw[zq,x,H1,O,Z,q1];erw[q1,z,e,q];subst e;erw[Z,t,rfl];have fp:∀(o:Obj),∀b∈ [#[0,s1]],AF X ot H1 b:=λo b hb=>by
  have e:b=#[0,s1]:=by simpa using hb
  subst e;exact O.fpOk (ug _) (O.hok.fresh (ug _))
 cases ha:z.cps.all (·<128)
 ·refine wpAny_pyIter_wide ha ?_;exact⟨#[0,s1],[#[0,s1]],_,_,H1,1,O.kept (t':=s1.toks) λb o e=>ud _ e,AH "str_iterator" (.inr rfl),⟨_,uE _ rfl,1,1⟩,fp default,q⟩
 ·refine wpAny_pyIter_ascii ha ?_;exact⟨#[0,s1],[#[0,s1]],_,_,H1,1,O.kept (t':=s1.toks) λb o e=>ud _ e,AH "str_ascii_iterator" (.inl rfl),⟨_,uE _ rfl,1,1⟩,fp default,q⟩
inductive Ady (x:V)(lo:Option Int)(hi:Option Int)(H:Hp)(Q:VK):Prop
 |mk (z:_)(_:x= .str z)(_:↑z<=Vl)(_:Q (.str (gT z lo hi)) H)
nonrec def B6:o7->oq (Int×Tok)
 | .int i t=>u_ (i,t)
 |_=>U_
def My:SlR X Ady:=by
 exists 2,x,v,O,U,lo,hi,sl,Q,I,rx,hs,pl,pu,h;erw[h,z,rfl,hz,q];erw[rx,t,rfl];exists "str",_,F.slot_str_getitem.lookup,vU _ _ _;have Z:O=partValue (B6 O)/\lo=(B6 O).map (·.1):=by cases pl<;>exact[1:1]
 have hu:U=partValue (B6 U)/\hi=(B6 U).map (·.1):=by cases pu<;>exact[1:1]
 erw[hs,o,e1,e2,e3];refine uX (n:=1) I.tk ?_;refine wpAny_getItem_str_slice (l:=B6 O) (u:=B6 U) (st:=U_) ⟨o,e1,e2,by rw[e3,<-Z.1,<-hu.1];rfl⟩ rfl ?_
 refine post_val_or_str [?_:λt' k=>?_]
 ·exact uL (rV z _ _) hz
 ·intro htk;exact⟨.str (gT z lo hi),H,I.tok k,⟨t',by rw[Z.2,hu.2];rfl⟩,q⟩
def qZ {K:o0}(U:X.K=K):Yv X (.builtin "isinstance") (λxs H Q=>∃x T t b,xs= [x,.ty T]/\BV K H x t/\PySem.W.kitOne K t (.type T)=u_ b/\Q (.bl b) H):=by
 exists 2,xs,us,Q,I,r,h;erw[h,x,T,t,b,rfl,ty,e,q];erw[CF r,u,Z,rfl,ru,O];cases O;subst U;exact uX (n:=1) I.tk (Ez I ru ty e λtk htk=>⟨.bl b,H,I.tok tk,1,q⟩)
def sJ:∀bs:om Bool,(Vn ↑bs).all (λi=>bs.getD i v_)=bs.all id
 | []=>rfl
 |b::r=>by
  rw[uj,f_,vx,Ul,vx];have e:(Vn ↑r).all ((λi=>(b::r).getD i v_)∘tu)=(Vn ↑r).all λi=>r.getD i true:=by
   congr 1
  rw[e,sJ r]
  rfl
def WE (hc:X.calm=v_):Yv X (.builtin "all") (λxs H Q=>∃(p:o6) (bs:om Bool),xs= [.ref p]/\SqL X.K H p (bs.map V.bl)/\Q (.bl (bs.all id)) H):=by
 exists 2,xs,us,Q,I,r,h;erw[h,p,bs,rfl,hp,q];erw[jQ r,u,rfl,ru];cases ru;erw[I.list hp,its,rv,pl,hz];have aa:p<#[0,s]:=by erw[pl,o,n,e,_];exact uB e
 refine uX (n:=1) I.tk ?_;refine call_all_walk (V5 pl.isList ?_);have up:∀b o,s.heap.get? b=u_ o->(s.heap.push {cls:= .type "list_iterator",data:= .fields #[.ref p,.int 0 0]}).get? b=u_ o:=λb o e=>ud _ e;have hl:↑its=↑bs:=by have:=↑rv;simpa using this.symm
 exists #[0,s],_,_,_,_,_,λi=>bs.getD i v_,1,Walks.list (show X.A.in1.handled=U_ from I.ok.hd hc) #[0,s] p (uO aa) its.toArray,[⟨_,uE _ rfl,1,1⟩:pl.isList.push _],?_,?_
 ·intro i v s' Q' E' hv hQ;have O:its[i]? =u_ v:=by simpa using hv
  have hi:i<↑its:=(Ai.mp O).1;obtain⟨u,e1,e2⟩:=rv.get (i:=i) (x:= .bl (bs[i]'())) (by simp[show i<bs.length by omega])
  rw[O] at e1;cases e1;cases e2;have:bs.getD i v_=bs[i]'():=by simp[VY,show i<bs.length by omega]
  have U:Q' (bs.getD i v_) s':=hQ;rw[this] at U;exact vz U
 ·intro h' tk kk htk;have Z:(Vn its.toArray.size).all (λi=>bs.getD i v_)=bs.all id:=by
   rw[ui,hl];exact sJ bs
  rw[Z];have I1:=I.kept (t':=s.toks) (h':=s.heap.push {cls:= .type "list_iterator",data:= .fields #[.ref p,.int 0 0]}) up;have ac:=I.fpOk (ug _) (I.hok.fresh (ug #[0,s]));erw[ac,f0,f1,f2,f3,f4,f5];exact⟨.bl (bs.all id),H,I1.turned (it:=#[0,s]) (λb o hb e=>kk b o (by simpa using hb) e) f0 f1 f3 f4 f5,1,q⟩
end
section
variable {X:Cx}
def qag {x:Str}{i:Int}{pos:Pos}(O:Gl X x)(hm:∃t,X.mg x=u_ (.int i t))(hd:(x==("__debug__":Str))=Vh):PE X (.Name x pos) (tC (.int i)):=by
 erw[hm,t,hm];exact sY O hm [t:1] hd
def AaE {x z:Str}{pos:Pos}(O:Gl X x)(hm:∃t,X.mg x=u_ (.str z t))(hd:(x==("__debug__":Str))=Vh):PE X (.Name x pos) (tC (.str z)):=by
 erw[hm,t,hm];exact sY O hm [t:1] hd
def pe_gR {x:Str}{a:o6}{pos:Pos}(O:Gl X x)(hm:X.mg x=u_ (.ref a))(hd:(x==("__debug__":Str))=Vh):PE X (.Name x pos) (tC (.ref a)):=sY O hm rfl hd
end
variable {H:Hp}{p:o6}
def qi (h:H p=U_)(o:HO):ie H (upd H p o):=λb u q=>by rw[qm (qo q h)];exact q
nonrec def jR (p:o6)(H H':Hp):Prop:=∀b o,H b=u_ o->b≠p->H' b=u_ o
def jR.refl (p:o6)(H:Hp):jR p H H:=λ_ _ h _=>h
variable {H1 H2:Hp}
def jR.trans (a:jR p H H1)(b:jR p H1 H2):jR p H H2:=λc o h n=>b c o (a c o h n) n
def jR.upd (p:o6)(H:Hp)(o:HO):jR p H (L2.upd H p o):=λb u h n=>by rw[qm n];exact h
variable {H':Hp}
def jR.same (k:jR p H1 H')(s:ie H H1)(n:H p=U_):ie H H':=λb o h=>k b o (s b o h) (qo h n)
def YB {α:Type}{xs:om α}{i:Int}(h0:0<=i)(h1:i<↑xs):∃c,atI xs i=u_ c:=by
 obtain⟨n,rfl⟩:∃n:Nat,i=(n:Int):=[i.toNat:()]
 have hn:n<↑xs:=by omega
 exact[xs[n]:Qn (uf hn)]
nonrec def na (cells:om (Str×o6)):om (Str×VS)->om (Str×o6)->om (Str×o6)
 | [],cs=>cs
 |(n,k)::r,cs=>na cells r (if k== .free then(match cells.lookup n with|some a=>(n,a)::cs|none=>cs) else cs)
def KQ {cells:om (Str×o6)}:∀{names:om (Str×VS)}{cs:om (Str×o6)},(∀y c,cs.lookup y=u_ c->cells.lookup y=u_ c)->∀y c,(na cells names cs).lookup y=u_ c->cells.lookup y=u_ c
 | [],_,h=>h
 |(n,k)::r,cs,h=>by
  unfold na;refine KQ λy c e=>?_;split at e
  ·split at e
   ·rename_i a ha
    rw[vj] at e;split at e
    ·rename_i U
     have O:y=n:=beq_iff_eq.mp U;subst O;cases e;exact ha
    ·exact h y c e
   ·exact h y c e
  ·exact h y c e
def sx {cells:om (Str×o6)}:∀{names:om (Str×VS)}{cs:om (Str×o6)}{y:Str},(∃c,cs.lookup y=u_ c)->∃c,(na cells names cs).lookup y=u_ c
 | [],_,_,h=>h
 |(n,k)::r,cs,y,h=>by
  unfold na;refine sx ?_;split
  ·split
   ·rw[vj];split
    ·exact⟨0⟩
    ·exact h
   ·exact h
  ·exact h
def qaa {cells:om (Str×o6)}:∀{names:om (Str×VS)}{cs:om (Str×o6)}{y:Str},(y,VB)∈names->(∃c,cells.lookup y=u_ c)->∃c,(na cells names cs).lookup y=u_ c
 | [],_,_,h,_=>nomatch h
 |(n,k)::r,cs,y,h,O=>by
  unfold na;rcases Ac.mp h with e|h
  ·cases e;refine sx ?_;erw[O,c,O];rw[A6 (),O]
   exact⟨c,by simp[vj]⟩
  ·exact qaa h O
def zY {env:Env}:∀{names:om (Str×VS)}{cs:om (Str×o6)},(∀y,(y,VB)∈names->∃c,env.cells.lookup y=u_ c)->
  (gQ names cs λx r=>(do
   if x.2== .free then
    let a<-HM env x.1
    pure (GU ((x.1,a)::r))
   else pure (GU r):Sem (ForInStep (om (Str×o6)))))=(pure (na env.cells names cs):Sem (om (Str×o6)))
 | [],cs,_=>rfl
 |(n,k)::r,cs,h=>by
  rw[UD];have Z:∀y,(y,VB)∈r->∃c,env.cells.lookup y=u_ c:=λy hy=>h y (uc _ hy);unfold na;by_cases O:(k==VB)=v_
  ·have U:k= .free:=by simpa using O
   subst U;erw[h n ue,c,hc];have e:HM env n=pure c:=by unfold HM;rw[hc]
   simp![O,Vg,e,hc,tD];exact zY Z
  ·simp![A4 O,tD];exact zY Z
def kQ {scope:VD}{env:Env}(h:∀y,(y,VB)∈scope.names->∃c,env.cells.lookup y=u_ c):HS scope env=pure (na env.cells scope.names []):=by
 unfold HS;have q:=zY (cs:= []) h;show(gQ scope.names ([]:om (Str×o6)) (λx r=>(do
   if x.2== .free then
    let a<-HM env x.1
    pure (GU ((x.1,a)::r))
   else pure (GU r):Sem (ForInStep (om (Str×o6)))))>>=λcs=>pure cs)=_
 rw[q,tD]
def ZJ {env:Env}(hf:env.scope.kind= .function):∀{names:om (Str×VS)}{x:Str},names.lookup x=u_ .free->env.kindOf x=u_ .cell->
  (names.map λ(n,k)=>if(k==VB&&env.scope.kind== .function&&env.kindOf n==u_ .cell) then(n,gY) else(n,k)).lookup x=u_ .cell
 | [],_,h,_=>by simp at h
 |(n,k)::r,x,h,hc=>by
  have ih:= @ZJ env hf r x;show VJ x ((if(k==VB&&env.scope.kind== .function&&env.kindOf n==u_ .cell)=v_ then(n,gY) else(n,k))::_)=_
  cases O:x==n with
  |true=>
   simp![vj,O] at h;cases h;have Z:x=n:=beq_iff_eq.mp O;subst Z;rw[A6 (by rw[hf,hc];rfl)]
   simp[vj]
  |false=>
   simp![vj,O] at h;by_cases U:(k==VB&&env.scope.kind== .function&&env.kindOf n==u_ .cell)=v_
   ·rw[A6 U];simp![vj,O];exact ih h hc
   ·rw[A4 U];simp![vj,O];exact ih h hc
def wE {env:Env}:∀{names:om (Str×VS)}{x:Str},(∀y∈names,y.2≠ .cell)->
  ((names.map λ(n,k)=>if(k==VB&&env.scope.kind== .function&&env.kindOf n==u_ .cell) then(n,gY) else(n,k)).lookup x=u_ .cell∨
   (names.map λ(n,k)=>if(k==VB&&env.scope.kind== .function&&env.kindOf n==u_ .cell) then(n,gY) else(n,k)).lookup x=u_ .free)->(x,VB)∈names
 | [],_,_,h=>by simp at h
 |(n,k)::r,x,hn,h=>by
  have ih:= @wE env r x (λy hy=>hn y (uc _ hy));have g:VJ x ((if(k==VB&&env.scope.kind== .function&&env.kindOf n==u_ .cell)=v_ then(n,gY) else(n,k))::(r.map λ(n,k)=>if(k==VB&&env.scope.kind== .function&&env.kindOf n==u_ .cell) then(n,gY) else(n,k)))=u_ .cell∨
   VJ x ((if(k==VB&&env.scope.kind== .function&&env.kindOf n==u_ .cell)=v_ then(n,gY) else(n,k))::(r.map λ(n,k)=>if(k==VB&&env.scope.kind== .function&&env.kindOf n==u_ .cell) then(n,gY) else(n,k)))=u_ .free:=h
  have aa:k≠ .cell:=hn (n,k) ue;by_cases Z:(k==VB&&env.scope.kind== .function&&env.kindOf n==u_ .cell)=v_
  ·rw[A6 Z] at g;have hk:k= .free:=by
    rw[uu,uu] at Z
    simpa using Z.1.1
   subst hk;cases U:x==n with
   |true=>
    have O:x=n:=beq_iff_eq.mp U;subst O;exact ue
   |false=>
    simp![vj,U] at g;exact uc _ (ih g)
  ·rw[A4 Z] at g;cases U:x==n with
   |true=>
    have O:x=n:=beq_iff_eq.mp U;subst O;simp![vj,U] at g;rcases g with g|g
    ·exact Aa (uF g) aa
    ·rw[show k=VB from uF g]
     exact ue
   |false=>
    simp![vj,U] at g;exact uc _ (ih g)
noncomputable abbrev blk (X:Cx)(scope:VD)(Nb:om Str)(cl:om (Str×o6))(C:o6)(s₀:o8)(H₀:Hp)(fp:om o6)(pn:om (o6×Obj)):Cx:=
 {X with N:=Nb,s₀:=s₀,H₀:=H₀,env:=tZ scope cl C X.env,outer:=X.stack,ex:=fp,fn:=λ_=>Vh,pn:=pn,xe:=λ_ _=>False}
structure LcS (X:Cx)(scope:VD)(Nb:om Str)(nt:Nat)(fr:om Nat):Prop where
 kind:scope.kind= .function
 cell:∀y∈scope.names,y.2≠ .cell
 names:∀y∈scope.names,y.2= .local->scope.names.lookup y.1=u_ .local
 free:∀y∈scope.names,y.2= .free->X.env.kindOf y.1=u_ .cell
 len:↑Nb=nt+↑fr
 fr:∀(k j:Nat) (x:Str),fr[k]? =u_ j->Nb[nt+k]? =u_ x->X.N[j]? =u_ x/\scope.names.lookup x=u_ .free
nonrec def Ot (nt:Nat)(fr:om Nat)(σ:St):St:=rg nt U_++fr.map λj=>(σ[j]?).join
section
variable {pr:og}{wo:oh}{ar:oj}{RR:Ge->o8->Prop}{st:o8}
noncomputable abbrev nb (pr:og)(wo:oh)(ar:oj)(en:Env)(RR:Ge->o8->Prop):o7->o8->Prop:=notedBy (Vz pr wo) ar en λx t=>RR (.error x) t
noncomputable abbrev Ads (en:Env)(cs:om Expr):Sem Bool:=gQ cs v_ λc b=>if b=v_ then do let y<-isTrue c en (eval c en);pure (GU y) else pure (GU b)
def AA {el tg Z:Expr}{cs:om Expr}{sc:VD}{ps:Pos}{O U:o7}{en:Env}(J:Nat->o8->Prop)
  (aa:∀k t,J k t->Vi (Vz pr wo) ar (gZ O) (λr t1=>match r with
   |none=>RR (.ok .next) t1
   |some v=>Vi (Vz pr wo) ar (HQ tg O v) (λ_ t2=>Vi (Vz pr wo) ar (gX tg en v) (λ_ t3=>Vi (Vz pr wo) ar (Ads en cs) (λb t4=>
     if b=v_ then Vi (Vz pr wo) ar (eval el en) (λx t5=>Vi (Vz pr wo) ar (call (.builtin "list.append") [U,x]) (λ_ t6=>∃m,m<k/\J m t6) (nb pr wo ar en RR) t5) (nb pr wo ar en RR) t4
     else∃m,m<k/\J m t4) (nb pr wo ar en RR) t3) (nb pr wo ar en RR) t2) (nb pr wo ar en RR) t1) (nb pr wo ar en RR) t)
  (k:Nat) (h0:J k st):VR (Vz pr wo) ar (.compLoop (.ListComp el [⟨tg,Z,cs,(0)⟩] sc ps) 0 O U en) RR st:=by
 refine codeAny_loop rfl J (λk t hJ=>?_) k h0;show Vi _ ar ((compTurn (.ListComp el [⟨tg,Z,cs,(0)⟩] sc ps) 0 O U en).onRaise λx=>do noteFrame x en;theTreesLotGoes x) _ _ t
 rw[compTurn_list];refine wpAny_noted (A8 (HA (A8 (thn (aa k t hJ) λr t1 q1=>?_))));cases r with
 |none=>exact uz q1
 |some v=>
  refine A8 (thn q1 λ_ t2 q2=>A8 (thn q2 λ_ t3 q3=>A8 (thn q3 λb t4 q4=>?_)));cases b with
  |false=>exact uz [1:q4]
  |true=>exact A8 (A8 (thn q4 λx t5 q5=>A8 (thn q5 λ_ t6 q6=>uz (uz [1:q6]))))
end
nonrec def AbM (X:Cx)(ifs:om Expr)(t:TT):Prop:=
 ∀(ot:om (o6×Obj)) (s:o8) (σ:St) (H:Hp) (Q:Bool->Hp->Prop),#[I]->t σ H Q->Vi #[X,X] X.A (Ads X.env ifs) (TP X ot σ Q) X.xe s
nonrec def sO:TT:=λ_ H Q=>Q v_ H
def yp {X:Cx}:AbM X [] sO:=λ_ _ _ H _ I h=>wpAny_tests_nil [H:I:h]
def sX {X:Cx}{c:Expr}{t:TT}(h:PT X c t):AbM X [c] t:=λot s σ H Q I O=>wpAny_tests_one (h ot s σ H Q I O)
nonrec def Es (D:o6)(J:It)(g:TG)(tc:TT)(te:TE)(σb:St)(H1:Hp)(Q:VK):Prop:=
 ∃(n:Nat) (W:Nat->St->om V->Hp->Prop),n<=Vl/\W 0 σb [] (upd H1 D (.lst []))/\
  (∀i σ ys H,i<n->W i σ ys H->H D=u_ (.lst ys)->↑ys<=i->J.go i H/\∀x H',J.yld i H x H'->g x σ H' λσ2 H2=>tc σ2 H2 λb H3=>
   if b=v_ then te σ2 H3 λy H4=>H4 D=u_ (.lst ys)/\W (i+1) σ2 (ys++ [y]) (upd H4 D (.lst (ys++ [y]))) else H3 D=u_ (.lst ys)/\W (i+1) σ2 ys H3)/\
  ∀σ ys H,W n σ ys H->H D=u_ (.lst ys)->J.stop n H/\Q (.ref D) H
nonrec def tLC (nt:Nat)(fr:om Nat)(wi:TI)(g:TG)(tc:TT)(te:TE):TE:=λσ H Q=>wi σ H λJ H1=>∀D,H1 D=U_->Es D J g tc te (Ot nt fr σ) H1 Q
section
variable {X:Cx}{scope:VD}{Nb:om Str}{nt:Nat}{fr:om Nat}
def Sd {ot:om (o6×Obj)}{σ:St}{H:Hp}{s:o8}{fp:om o6}{C:o6}{h4:o9}{tk:Nat}(S:LcS X scope Nb nt fr)(I:#[I])(hC:C=#[0,s])
  (ag:h4.Ns C λ_=>U_) (U:∀b o,s.heap.get? b=u_ o->h4.get? b=u_ o) (hf:∀b∈fp,AF X ot H b) (ho:∀b∈fp,∃o,s.heap.get? b=u_ o) (ht:0<tk:=by ac_rfl):
  Inv (blk X scope Nb (na X.env.cells scope.names []) C s H fp (X.pn++ot)) [] (Ot nt fr σ) H {s with heap:=h4,toks:=tk}:=by
 subst hC;have sub:∀y c,(na X.env.cells scope.names []).lookup y=u_ c->X.env.cells.lookup y=u_ c:=KQ λy c e=>by simp at e
 have Z:∀y,(y,VB)∈scope.names->X.env.kindOf y=u_ .cell:=λy hy=>S.free _ hy rfl;have ad:∀b o,s.heap.get? b=u_ o->b≠#[0,s]:=λb o e z=>by rw[z] at e;exact Aa (uB e) (vN _)
 have O:∀b,b≠X.env.locals->b∉X.fs->b∉frs X.stack:=λb h1 h2 z=>(Ac.mp (I.stkSub b z)).elim h1 h2;exists ⟨I.ok.mod,S.kind,I.ok.glob,I.ok.blt,ug _,λx y c h1 h2=>I.ok.inj x y c (sub x c h1) (sub y c h2),λx hx=>?_,λx c z=>(by cases z),I.ok.hd,I.ok.frames,.inl rfl,λb hb=>?_,I.bs,uL I.ok.bsz I.sz,λb o e hb=>?_,λb hb=>?_,I.stack,I.stkFree⟩,1,I.bare,Un.kept U,[_:ag:λi x v e1 e2 e3=>?_],λx c e=>?_,I.hok.fresh (ug _),λx c e=>I.freeC x c (sub x c e),λp hp=>?_,I.hok.kept U,?_,ht
 ·have hm:=wE (env:=X.env) S.cell hx;exact qaa hm (I.ok.has x (.inl (Z x hm)))
 ·erw[ho b hb,o,e];exact[ad b o e:λx c e'=>(hf b hb).2.2.2.2.1 x c (sub x c e')]
 ·rcases(hf b hb).2.2.2.1 with z|z
  ·exact I.ok.noex b o e z
  ·exact Aa (Vw (uB e) (uL I.ok.bsz z)) (vN _)
 ·exact O b (hf b hb).2.1 (hf b hb).2.2.1
 ·
  have hi:nt<=i:=by
   rcases UV i nt with z|z
   ·unfold Ot at e2;rw[UO (by simpa using z),rC] at e2
    split at e2<;>cases e2
   ·exact z
  obtain⟨k,rfl⟩:∃k,i=nt+k:=[i-nt:()]
  unfold Ot at e2;rw[UM (by simp)] at e2
  simp![RY,Nat.add_sub_cancel_left,uD] at e2;cases ej:fr[k]? with
  |none=>rw[ej] at e2;cases e2
  |some j=>
   rw[ej] at e2;have aa:(σ[j]?).join=u_ v:=uF e2;have ae:σ[j]? =u_ (u_ v):=by
    cases q:σ[j]? with
    |none=>rw[q] at aa;cases aa
    |some z=>rw[q] at aa;exact Ab u_ aa
   erw[S.fr k j x ej e1,n1,n2];have kx:X.env.kindOf x=u_ .cell:=Z x (vJ n2);erw[I.loc,m,hn,hl];erw[hl j x v n1 ae (.inr (.inl kx)),u,r,l];exists u,r,.inr [.inl (ZJ I.ok.kind n2 kx):?_];rcases l with⟨z,_⟩|⟨_,c,ec,ac⟩
   ·rw[kx] at z;cases z
   ·erw[qaa (cells:=X.env.cells) (cs:= []) (vJ n2) [c:ec],c',af];have:=sub x c' af;rw[ec] at this;cases this;erw[ac,o,q,d];exact⟨c,af,o,U c o q,d⟩
 ·erw[I.cell x c (sub x c e),v,o,q,d];exact⟨v,o,U c o q,d⟩
 ·have ah:p∈X.pn++ot:=by simpa using hp
  erw[I.pin p ah,e,n,ne,nf,d];exact⟨U _ _ e,n,ad _ _ e,O _ ne nf,d⟩
 ·show(Ot nt fr σ).length=↑Nb;unfold Ot;rw[S.len];simp
def Er {tg aa al:Expr}{am:om Expr}{wi:TI}{g:TG}{tc:TT}{te:TE}{pos:Pos}{R:o7->o6->Ge->o8->Prop}{ot:om (o6×Obj)}{s:o8}{σ:St}{H:Hp}{Q:VK}(S:LcS X scope Nb nt fr)(ao:X.calm=v_)(hi:PI X tg aa wi)
  (hg:∀cl C s₀ H₀ fp pn,PG (blk X scope Nb cl C s₀ H₀ fp pn) tg g) (hc:∀cl C s₀ H₀ fp pn,AbM (blk X scope Nb cl C s₀ H₀ fp pn) am tc) (he:∀cl C s₀ H₀ fp pn,PE (blk X scope Nb cl C s₀ H₀ fp pn) al te)
  (I:#[I]) (h:tLC nt fr wi g tc te σ H Q)
  (hR:∀(D C:o6) (H':Hp) (s1:o8) (m:Str->oq o7),Inv X ot σ H' s1->s1.heap.Ns C m->AF X ot H' C->Q (.ref D) H'->R (.ref D) C (.ok .next) s1):
  Vi #[X,X] X.A (eval aa X.env) (λx s₁=>Vi #[X,X] X.A (H_ x) (λit s₂=>Vi #[X,X] X.A (Hq []) (λax s₃=>
   Vi #[X,X] X.A (tK scope X.env.globals (na X.env.cells scope.names []) [] X.env.qual U_ .none (u_ X.env)) (λag s₄=>
    VR #[X,X] X.A (.compStart (.ListComp al [⟨tg,aa,am,(0)⟩] scope pos) 0 it ax {ag with scope:=relabel scope X.env}) (R ax ag.locals) s₄) X.xe s₃) X.xe s₂) X.xe s₁) X.xe s:=by
 refine thn (hi ot s σ H _ I h) λv s1 h1=>thn h1 λaS s2 h2=>?_;erw[h2,it,fp,tn,J,H2,e,I2,T,ap,f2,q2];subst e;have ay:H2 #[0,s2]=none:=I2.hok.fresh (ug _);erw[q2 _ ay,n,W,hn,w0,step,fin];generalize hD:#[0,s2]=D at*;refine vA ?_;rw[hD];have I3:Inv X ot σ (upd H2 D (.lst [])) {s2 with heap:=s2.heap.push {cls:= .type "list",data:= .seq ([]:om o7).toArray}}:=by
  have:=I2.lnew (ys:= []) (its:= []) (t':=s2.toks) .nil (uG _);rwa[hD] at this
 refine wpAny_newFunctionEnv S.cell (by intro y hy;simp at hy) (λh4 ad aq=>?_) S.kind
 dsimp only at ad aq⊢;generalize aA:s2.heap.push {cls:= .type "list",dict:=U_,data:= .seq ([]:om o7).toArray}=h3 at ad aq I3⊢;have hC:h3.objs.size=D+1:=by rw[<-aA,vt,hD]
 have ae:∀b o,h3.get? b=u_ o->h4.get? b=u_ o:=λb o e=>aq.extBut b o (uO (uB e)) (ud _ e);have Z:∀b o,s2.heap.get? b=u_ o->h3.get? b=u_ o:=λb o e=>by rw[<-aA];exact ud _ e
 have au:∀b∈fp,∃o,s2.heap.get? b=u_ o:=λb O=>let⟨o,e,_⟩:=T.obj _ _ ap b O;[o:e];have aG:∀b∈fp,b≠D:=λb O z=>by
  erw[au b O,o,e];have q:=uB e;rw[z,hD] at q;exact vN _ q
 have f3:∀b∈fp,AF X ot (upd H2 D (.lst [])) b:=λb O=>⟨by rw[qm (aG b O)];exact(f2 b O).1,(f2 b O).2⟩
 have IB:=Sd (C:=h3.objs.size) (h4:=h4) (tk:=s2.toks+↑([]:om (Str×o7))) (fp:=fp) S I3 rfl ad ae f3 λb O=>let⟨o,e⟩:=au b O;[o:Z b o e];generalize U:blk X scope Nb (na X.env.cells scope.names []) h3.objs.size {s2 with heap:=h3} (upd H2 D (.lst [])) fp (X.pn++ot)=Xb at IB
 have gB:=hg (na X.env.cells scope.names []) h3.objs.size {s2 with heap:=h3} (upd H2 D (.lst [])) fp (X.pn++ot)
 have cB:=hc (na X.env.cells scope.names []) h3.objs.size {s2 with heap:=h3} (upd H2 D (.lst [])) fp (X.pn++ot)
 have eB:=he (na X.env.cells scope.names []) h3.objs.size {s2 with heap:=h3} (upd H2 D (.lst [])) fp (X.pn++ot)
 rw[U] at gB cB eB;have xP:Xb.prog=X.prog:=by rw[<-U]
 have xW:Xb.w=X.w:=by rw[<-U]
 have xK:Xb.K=X.K:=by rw[<-U]
 have xA:Xb.A=X.A:=by rw[<-U]
 have xC:Xb.calm=true:=by rwa[<-U]
 have xE:Xb.env=tZ scope (na X.env.cells scope.names []) h3.objs.size X.env:=by rw[<-U]
 have xX:Xb.xe=λ_ _=>False:=by rw[<-U]
 have af:∀{H':Hp},(∀b∈fp,H' b=U_)->∀b∈fp,AF Xb [] H' b:=λhn b O=>by
  erw[f2 b O,g1,g2,g3,g4,g5,g6];erw[au b O,o,e];subst U;exists hn b O,λz=>?_,λz=>(Ac.mp (I2.stkSub b z)).elim g2 g3,.inl O,λx c ec=>g5 x c (KQ (λy c e=>by simp at e) x c ec),λp hp=>g6 p (by simpa using hp)
  have ac:=uB (Z b o e);have z':b=h3.objs.size:=z;rw[z'] at ac;exact vN _ ac
 have ah:∀s5:o8,s5={s2 with heap:=h4,toks:=s2.toks+↑([]:om (Str×o7))}->
   VR #[X,X] X.A (.compLoop (.ListComp al [⟨tg,aa,am,(0)⟩] scope pos) 0 (.ref it) (.ref D) (tZ scope (na X.env.cells scope.names []) h3.objs.size X.env))
    (R (.ref D) h3.objs.size) s5:=by
  rintro s5 rfl;refine AA (λk s'=>∃i σ' ys H',Inv Xb [] σ' H' s'/\tn i s'.heap/\(∀b∈fp,H' b=U_)/\H' D=u_ (.lst ys)/\i<=n/\k=n-i/\↑ys<=i/\W i σ' ys H') ?_ n
   ⟨(0),Ot nt fr σ,[],_,IB,T.keep _ _ _ ap λb O o e=>ae b o (Z b o e),λb O=>(f3 b O).1,qk,uG _,1,ug _,w0⟩
  rintro k s' ⟨i,σ',ys,H',I',aB,aC,aD,aH,rfl,aI,w'⟩;rcases UV i n with ac|aJ
  ·erw[step i σ' ys H' ac w' aD aI,go,next];have ti:=T.item Xb xP xW xK xC i [] s' σ' H' (λ_ _=>False) I' (af aC) aB go;rw[xA] at ti;refine vS ti (λr s1 h1=>?_) λ_ _ z=>z.elim;erw[h1,u,rfl,h1];refine vS h1 (λ_ aE aK=>?_) λ_ _ z=>z.elim;erw[aK,x,H5,I5,r5,y5,aw,aL];have aM:=I5.pinned (af aL) (T.obj _ _ aw);have ga:=gB _ aE σ' H5 x u _ aM r5 (next x H5 y5);rw[xP,xW,xA,xE,xX] at ga;refine vS ga (λ_ s3 aN=>?_) λ_ _ z=>z.elim;erw[aN,σ6,H6,I6,q6];have ca:=cB _ s3 σ6 H6 _ I6 q6;rw[xP,xW,xA,xE,xX] at ca;refine vS ca (λok s4 aO=>?_) λ_ _ z=>z.elim;erw[aO,H7,I7,q7];have ak:∀{σ8:St}{H8:Hp}{s8:o8},Inv Xb ([]++oo fp aE.heap) σ8 H8 s8->Inv Xb [] σ8 H8 s8/\tn (i+1) s8.heap/\∀b∈fp,H8 b=none:=λ{σ8 H8 s8} I8=>by
    exists I8.unpinned,T.keep _ _ _ aw λb O o e=>(I8.pin (b,o) (uM _ (uM _ (xg O e)))).1,λb O=>?_;erw[T.obj _ _ aw b O,o,e,d];exact(I8.pin (b,o) (uM _ (uM _ (xg O e)))).2.1
   cases ok with
   |false=>
    rw[A4 ua] at q7⊢;erw[ak I7,b1,b2,b3];exact⟨n-(i+1),(),i+1,σ6,ys,H7,b1,b2,b3,q7.1,ac,1,(),q7.2⟩
   |true=>
    rw[A6 rfl] at q7⊢;have ea:=eB _ s4 σ6 H7 _ I7 q7;rw[xP,xW,xA,xE,xX] at ea;refine vS ea (λy s5 h5=>?_) λ_ _ z=>z.elim;erw[h5,yv,H8,I8,r8,aP,q8];have ma:=yF (X:=Xb) _ s5 σ6 H8 (.ref D) [yv] (.ref D) [y] (λ_ H9=>H9=upd H8 D (.lst (ys++ [yv]))) I8 rfl (.cons r8 .nil) ⟨D,ys,yv,1,1,aP,(),1⟩
    rw[xP,xW,xA,xX] at ma;refine vS ma (λ_ s6 h6=>?_) λ_ _ z=>z.elim;erw[h6,_,H9,I9,_,rfl];erw[ak I9,b1,b2,b3];exact⟨n-(i+1),(),i+1,σ6,ys++ [yv],_,b1,b2,b3,qk,ac,1,by rw[uq,uU];omega,q8⟩
  ·have aF:i=n:=Nat.le_antisymm aH aJ;subst aF;erw[fin σ' ys H' w' aD,stop,hq];have td:=T.done Xb xP xW xK xC i [] s' σ' H' (λ_ _=>False) I' (af aC) aB stop;rw[xA] at td;refine vS td (λr s1 h1=>?_) λ_ _ z=>z.elim;erw[h1,rfl,I6];erw[id I6.loc,m,hm,_];rw[xE] at hm;have aQ:H' h3.objs.size=none:=by have:=I6.free;rwa[xE] at this
   have u6:Un (frs X.stack) fp (upd H2 D (.lst [])) H' h3 s1.heap:=by have:=I6.base;subst U;exact this
   have u2:Un (frs X.stack) fp H2 (upd H2 D (.lst [])) s2.heap h3:=Un.laid (λb o e=>Z b o e) (by rw[hD];exact ug _) ay
   have aR:s1.os=s2.os:=by have:=I6.os;subst U;exact this
   have hok:HOk X.prog X.w H' s1.heap:=by
    have:=I6.hok;subst U;exact this
   refine hR D h3.objs.size H' s1 m (I2.call' (s':=s1) (ch:=fp) aR (u2.trans u6) hok I6.bare λb O=>?_) hm (I2.fpOk () aQ) hq
   erw[f2 b O,g1,g2,g3,g4,g5,g6];exact⟨g4,g2,g5,g6⟩
 exact codeAny_compStart_list (ah _ rfl) (T.self _ 0 _ _ _ (T.keep _ _ _ ap λb O o e=>ae b o (Z b o e)) (ah _ rfl))
def zk {tg O aa:Expr}{ac:om Expr}{wi:TI}{g:TG}{tc:TT}{te:TE}{pos:Pos}(S:LcS X scope Nb nt fr)(U:X.calm=v_)(hi:PI X tg O wi)
  (hg:∀cl C s₀ H₀ fp pn,PG (blk X scope Nb cl C s₀ H₀ fp pn) tg g) (hc:∀cl C s₀ H₀ fp pn,AbM (blk X scope Nb cl C s₀ H₀ fp pn) ac tc) (he:∀cl C s₀ H₀ fp pn,PE (blk X scope Nb cl C s₀ H₀ fp pn) aa te)
  (hs:∀x,TM O X.env x=pure x):PE X (.ListComp aa [⟨tg,O,ac,(0)⟩] scope pos) (tLC nt fr wi g tc te):=by
 exists 2,Q,I,h;have Z:HS scope X.env=pure (na X.env.cells scope.names []):=kQ λy hy=>I.ok.has y (.inl (S.free _ hy rfl));rw[eval_ListComp];refine rT (use:=U_) rfl hs Z S.kind S.names ?_;refine Er (R:=λad C=>compPost #[X,X] X.A X.xe U_ (EP X ot σ Q) ad C) S U hi hg hc he I h λD C H' s1 m I1 hm fc q=>?_;erw[fc,f0,f1,f2,f3,f4,f5];exact[m:hm:λh' ae=>⟨.ref D,H',I1.turned (t':=s1.toks) (it:=C) (λb o hb e=>(ae.2 b hb).trans e) f0 f1 f3 f4 f5,1,q⟩]
def Z7 {i:Nat}{y:Str}{tg O U:Expr}{Z:om Expr}{wi:TI}{g:TG}{tc:TT}{te:TE}{pos aa py:Pos}(hN:X.N.Nodup)(ae:X.N[i]? =u_ y)(hy:Loc X.env.scope y)(S:LcS X scope Nb nt fr)(ac:X.calm=v_)(hi:PI X tg O wi)
  (hg:∀cl C s₀ H₀ fp pn,PG (blk X scope Nb cl C s₀ H₀ fp pn) tg g) (hc:∀cl C s₀ H₀ fp pn,AbM (blk X scope Nb cl C s₀ H₀ fp pn) Z tc) (he:∀cl C s₀ H₀ fp pn,PE (blk X scope Nb cl C s₀ H₀ fp pn) U te)
  (hs:∀x,TM O X.env x=pure x) (af:hZ (.ListComp U [⟨tg,O,Z,(0)⟩] scope pos) (u_ (.Name y py)) aa.line X.env=pure v_)
  (hf:X.fn y=v_∨X.env.scope.names.lookup y=u_ .local):
  PS X (.Assign [.Name y py] (.ListComp U [⟨tg,O,Z,(0)⟩] scope pos) aa) (Acq (tLC nt fr wi g tc te) (Y5 i)):=by
 exists 2,D,I,h;have ad:HS scope X.env=pure (na X.env.cells scope.names []):=kQ λy hy=>I.ok.has y (.inl (S.free _ hy rfl));rw[exec_Assign_Name_used _ _ _ _ af];refine A8 (HA (A8 ?_));show Vi _ X.A (do let _<-comprehension (.ListComp U [⟨tg,O,Z,(0)⟩] scope pos) scope X.env _ (Hq []) Vh (eval O X.env) (u_ (gX (.Name y py) X.env))) _ _ s
 refine A8 (vS (rT (use:=u_ (gX (.Name y py) X.env)) (Q:=λ_ s'=>SP X ot D .next s') rfl hs ad S.kind S.names ?_) (λ_ s' hq=>uz (uz hq)) λ_ _ e=>e);refine Er (R:=λag C=>compPost #[X,X] X.A X.xe (u_ (gX (.Name y py) X.env)) (λ_ s'=>SP X ot D .next s') ag C) S ac hi hg hc he I h λA C H' s1 m I1 hm fc q=>?_;erw[fc,f0,f1,f2,f3,f4,f5];show Vi _ X.A (gX (.Name y py) X.env (.ref A)) _ _ s1;refine R9 (nC (v:= .ref A) I1 hN ae hy (show ik (.ref A) (.ref A) from rfl) (λs' I' zq=>?_) hf);erw[zq,a,sb,ha]
 have ah:C≠a:=by
  rcases ha with rfl|ha
  ·exact f1
  ·exact λz=>f4 y a ha z.symm
 refine[m:hm.sameBut sb ah:λh' ak=>⟨_,H',I'.turned (t':=s'.toks) (it:=C) (λb o hb e=>(ak.2 b hb).trans e) f0 f1 f3 f4 f5,q⟩]
end
def PU {X:Cx}{sc:VD}{x:Str}(O:sc.kind= .function:=by rfl)(U:∀y∈sc.names,y.2≠ .cell:=by decide+kernel)(hn:∀y∈sc.names,y.2= .local->sc.names.lookup y.1=u_ .local:=by decide+kernel)
  (Z:∀y∈sc.names,y.2≠ .free:=by decide+kernel):LcS X sc [x] 1 []:=⟨O,U,hn,λy hy e=>Aa e (Z y hy),1,λk j x h=>by simp at h⟩
def En {X:Cx}{sc:VD}{Nb:om Str}{nt:Nat}{fr:om Nat}(O:VD)(U:om Str)(Z:X.env.scope=O:=by rfl)(hN:X.N=U:=by rfl)(hk:sc.kind= .function:=by rfl)(hc:∀y∈sc.names,y.2≠ .cell:=by decide+kernel)
  (hn:∀y∈sc.names,y.2= .local->sc.names.lookup y.1=u_ .local:=by decide+kernel) (hf:∀y∈sc.names,y.2= .free->O.names.lookup y.1=u_ .cell:=by decide+kernel) (hl:↑Nb=nt+↑fr:=by rfl)
  (hz:((fr.zip (Nb.drop nt)).all λp=>decide (U[p.1]? =u_ p.2)&&decide (sc.names.lookup p.2=u_ .free))=true:=by decide+kernel):LcS X sc Nb nt fr:=by
 subst Z hN;exists hk,hc,hn,hf,hl,λk j x h1 h2=>?_;have hm:(fr.zip (Nb.drop nt))[k]? =u_ (j,x):=by
  rw[List.getElem?_zip_eq_some];exact⟨h1,by rwa[List.getElem?_drop]⟩
 have q:=List.all_eq_true.mp hz _ (uK hm);rw[uu] at q;exact[um q.1:um q.2]
def Aa6 {z:Str}{D:o6}{H1:Hp}{te:TE}{tl:St}{Q:VK}(f:Nat->V)(hz:↑z<=Vl)(Z:H1 D=U_)
  (O:∀(i c:Nat) H (R:VK),z.cps[i]? =u_ c->ie H1 H->R (f c) H->te (u_ (.str ⟨#[c]⟩)::tl) H R)
  (hQ:∀H',ie H1 H'->H' D=u_ (.lst (z.cps.toList.map f))->Q (.ref D) H'):Es D (Its z) (Y5 0) sO te (U_::tl) H1 Q:=by
 exists z.cps.size,λi σ ys H=>(∃w,σ=w::tl)/\ys=(z.cps.toList.take i).map f/\ie H1 H,hz,[[U_:1]:1:qi Z _],?_,?_
 ·rintro i σ ys H hi ⟨⟨w,rfl⟩,rfl,sm⟩ U hy;exists hi;rintro x H' ⟨rfl,c,hc,rfl⟩;dsimp![Y5,sO,GG];rw[A6 rfl];refine O i c H' _ hc sm ⟨U,[u_ (.str ⟨#[c]⟩):1],?_,?_⟩
  ·rw[vb,show z.cps.toList[i]? =u_ c by simpa using hc]
   simp
  ·intro b o e;rw[qm (qo e Z)];exact sm b o e
 ·rintro σ ys H ⟨_,rfl,sm⟩ U;exists 1,hQ H sm ?_;rw[U,ve (by simp)]
inductive IsT (H:Hp)(p:List V->Prop)(v:V):Prop
 |mk (a:Addr)(vs:List V)(_:v= .ref a)(_:H a=u_ (.tup vs))(_:p vs)
inductive IsC (p:V->Prop)(q:List V->Prop)(vs:List V):Prop
 |mk (v:V)(r:List V)(_:vs=v::r)(_:p v)(_:q r)
mutual
noncomputable def Is (H:Hp):D->V->Prop
 | .non,v=>v= .non
 | .bl b,v=>v= .bl b
 | .int i,v=>v= .int i
 | .str z,v=>v= .str z/\↑z<=Vl
 | .lst,v=>∃a xs,v= .ref a/\H a=u_ (.lst xs)
 | .dct,v=>∃a kvs,v= .ref a/\H a=u_ (.dK kvs)
 | .tup xs,v=>IsT H (IsL H xs) v
noncomputable def IsL (H:Hp):om D->om V->Prop
 | [],vs=>vs= []
 |x::xs,vs=>IsC (Is H x) (IsL H xs) vs
end
structure Tk (H H':Hp):Prop where
 tup:∀b xs,H b=u_ (.tup xs)->H' b=u_ (.tup xs)
 lst:∀b xs,H b=u_ (.lst xs)->∃ys,H' b=u_ (.lst ys)
 dct:∀b xs,H b=u_ (.dK xs)->∃ys,H' b=u_ (.dK ys)
def ie.tk (s:ie H H'):Tk H H':=[λb xs e=>s b _ e:λb xs e=>[xs:s b _ e]:λb xs e=>[xs:s b _ e]]
def Tk.refl (H:Hp):Tk H H:=(ie.refl H).tk
def Tk.trans (a:Tk H H1)(b:Tk H1 H2):Tk H H2:=⟨λc xs e=>b.tup c xs (a.tup c xs e),λc xs e=>let⟨ys,e1⟩:=a.lst c xs e;b.lst c ys e1,λc xs e=>let⟨ys,e1⟩:=a.dct c xs e;b.dct c ys e1⟩
variable {xs ys:om V}
def jR.tk (k:jR p H H')(h:H p=u_ (.lst xs))(h':H' p=u_ (.lst ys)):Tk H H':=by
 exists λb zs e=>k b _ e λz=>?_,λb zs e=>?_,λb zs e=>[zs:k b _ e λz=>?_]
 ·rw[z,h] at e;cases e
 ·by_cases z:b=p
  ·exact[ys:z▸h']
  ·exact[zs:k b _ e z]
 ·rw[z,h] at e;cases e
mutual
theorem Is.mono {H H':Hp}(t:Tk H H'):∀{d:D}{v:V},Is H d v->Is H' d v
 | .non,_,h=>h
 | .bl _,_,h=>h
 | .int _,_,h=>h
 | .str _,_,h=>h
 | .lst,_,h=>by
  erw[h,a,vs,e,ha];erw[t.lst a vs ha,ys,q];exact⟨a,ys,e,q⟩
 | .dct,_,h=>by
  erw[h,a,vs,e,ha];erw[t.dct a vs ha,ys,q];exact⟨a,ys,e,q⟩
 | .tup xs,_,h=>by
  erw[h,a,vs,e,ha,O];exact⟨a,vs,e,t.tup a vs ha,IsL.mono t O⟩
theorem IsL.mono {H H':Hp}(t:Tk H H'):∀{ds:om D}{vs:om V},IsL H ds vs->IsL H' ds vs
 | [],_,h=>h
 |_::_,_,h=>by
  erw[h,v,r,e,h1,h2];exact⟨v,r,e,Is.mono t h1,IsL.mono t h2⟩
end
def IsL.length {H:Hp}:∀{ds:om D}{vs:om V},IsL H ds vs->↑vs=↑ds
 | [],_,h=>by cases(show _= [] from h);rfl
 |_::_,_,h=>by
  erw[h,v,r,rfl,_,h2];rw[uj,uj,IsL.length h2]
def IsL.get {H:Hp}:∀{ds:om D}{vs:om V}{i:Nat}{d:D},IsL H ds vs->ds[i]? =u_ d->∃v,vs[i]? =u_ v/\Is H d v
 | [],_,_,_,_,e=>by simp at e
 |x::_,_,0,d,h,e=>by
  erw[h,v,r,rfl,h1,_];have:x=d:=by simpa using e
  exact[v:1:this▸h1]
 |_::_,_,i+1,d,h,e=>by
  erw[h,v,r,rfl,_,h2];obtain⟨u,O,U⟩:=IsL.get (i:=i) (d:=d) h2 (by simpa using e)
  exact⟨u,by simpa using O,U⟩
def IsL.append {H:Hp}:∀{ds es:om D}{vs us:om V},IsL H ds vs->IsL H es us->IsL H (ds++es) (vs++us)
 | [],_,_,_,h,k=>by cases(show _= [] from h);exact k
 |_::_,_,_,_,h,k=>by
  erw[h,v,r,rfl,h1,h2];exact⟨v,0,h1,IsL.append h2 k⟩
variable {v:V}
def IsL.one {d:D}(h:Is H d v):IsL H [d] [v]:=⟨v,[],1,h,1⟩
variable {ds:om D}
def Is.new {vs:om V}(h:IsL H ds vs)(O:H p=U_):Is (upd H p (.tup vs)) (.tup ds) (.ref p):=
 ⟨p,vs,1,qk,h.mono (qi O _).tk⟩
nonrec def tyD:D->o7
 | .non=> .type "NoneType"
 | .bl _=> .type "bool"
 | .int _=> .type "int"
 | .str _=> .type "str"
 | .lst=> .type "list"
 | .dct=> .type "dict"
 | .tup _=> .type "tuple"
def Is.ty {d:D}(h:Is H d v):BV K H v (tyD d):=by
 cases d with
 |non=>cases(show v= .non from h);exact .non
 |bl b=>cases(show v= .bl b from h);exact .bl b
 |int i=>cases(show v= .int i from h);exact .int i
 |str z=>
  erw[h,rfl,_];exact .str z
 |lst=>
  erw[h,a,vs,rfl,ha];exact .lst ha
 |dct=>
  erw[h,a,vs,rfl,ha];exact .dK ha
 |tup xs=>
  erw[h,a,vs,rfl,ha,_];exact .tup ha
section
variable {X:Cx}
def DJ:OpR X (Vt .Gt) (λx y H Q=>∃i j,x= .str i/\y= .str j/\Q (.bl (decide (j.cps.toList<i.cps.toList))) H):=by
 exists 2,x,y,v,u,Q,I,O,U,h;erw[h,i,j,rfl,rfl,q];erw[O,t,rfl];erw[U,t',rfl];exact PySem.P.gt_str (Qq I q rfl)
def sA (Z:X.calm=v_):Yv X (.builtin "sum") (λxs H Q=>∃(p:o6) (ns:om Int),xs= [.ref p]/\SqL X.K H p (ns.map V.int)/\Q (.int ns.sum) H):=by
 exists 2,xs,us,Q,I,r,h;erw[h,p,ns,rfl,hp,q];erw[jQ r,u,rfl,ru];cases ru;erw[I.list hp,its,rv,pl,hz];have hi:GB its ns:=Cr rv;erw[hi.allInts.items,ys,U];have O:s.heap.IsList p (intItems ys):=U▸pl.isList;refine uX (n:=1) I.tk (sum_intListG (I.ok.hd Z) O λh' tk t' hk=>?_);intro htk;have e1:ns=ys.toList.map (·.1):=by
  have q1:=hi.numsOf;rw[<-nums_intItems,<-U];exact(show numsOf its.toArray.toList=ns from q1).symm
 have e2:preSum (numAt ys) ys.size=ns.sum:=by
  rw[preSum_eq,ve (by simp),e1]
 rw[e2];exact⟨.int ns.sum,H,I.kept hk,[t':1],q⟩
inductive Lk (K:PySem.W.Frag)(x:V)(y:V)(H:Hp)(Q:VK):Prop
 |mk (a:_)(b:_)(xs:_)(ys:_)(_:x= .ref a)(_:y= .ref b)(_:SqT K H a xs)(_:SqT K H b ys)(_:↑xs+↑ys<=Vl)(_:(xs= []->Q (.ref b) H))(_:(xs≠ []->ys= []->Q (.ref a) H))(_:(xs≠ []->ys≠ []->∀p,H p=U_->Q (.ref p) (upd H p (.tup (xs++ys)))))
def Xg:OpR X (VQ .Add) (Lk X.K):=by
 exists 2,x,y,v,u,Q,I,U,Z,h;erw[h,a,b,xs,ys,rfl,rfl,ha,hb,hz,q0,q1,q2];by_cases O:xs= []
 ·cases U;cases Z;erw[I.tuple ha,its,r1,p1,_];erw[I.tuple hb,aa,r2,p2,_];subst O;cases r1;erw[id p1,[c1,d1,t1,l1],o1,e1,n1,f1];erw[id p2,[c2,d2,t2,l2],o2,e2,n2,f2];simp only at e1 f1 e2 f2;subst e1 f1 e2 f2;exact T1 p1.typeIs p2.typeIs TH tF PySem.F.slot_tuple_add V0 (UU _ _) (tuple_addW0 a b _ _ n1 n2 d1 d2 l1 l2 rfl) [o1:o2:⟨.ref b,H,I,1,q0 rfl⟩]
 ·exact OS ot s σ H (.ref a) (.ref b) v u Q I U Z ⟨a,b,xs,ys,1,1,ha,hb,O,hz,q1 O,q2 O⟩
end
def Tk.updL (h:H p=u_ (.lst xs)):Tk H (upd H p (.lst ys)):=by
 exists λb zs e=>?_,λb zs e=>?_,λb zs e=>[zs:?_]
 ·rw[qm (λz=>by rw[z,h] at e;cases e)];exact e
 ·by_cases z:b=p
  ·exact⟨ys,by rw[z];exact qk⟩
  ·exact⟨zs,by rwa[qm z]⟩
 ·rw[qm (λz=>by rw[z,h] at e;cases e)];exact e
def Ep {J:It}{A:o6}{H1:Hp}{te:TE}{tl:St}{Q:VK}{ds:om D}(f:D->D)(hn:↑ds<=Vl)(hA:H1 A=U_)
  (aa:∀i H,ie H1 H->i<↑ds->J.go i H) (hy:∀i H x H' d,ie H1 H->ds[i]? =u_ d->J.yld i H x H'->H'=H/\Is H d x) (U:∀H,ie H1 H->J.stop ↑ds H)
  (ac:∀d x H (R:VK),d∈ds->ie H1 H->Is H d x->(∀y H',ie H H'->Is H' (f d) y->R y H')->te (u_ x::tl) H R)
  (hQ:∀H' ys,ie H1 H'->H' A=u_ (.lst ys)->IsL H' (ds.map f) ys->Q (.ref A) H'):Es A J (Y5 0) sO te (U_::tl) H1 Q:=by
 exists ↑ds,λi σ ys H=>(∃w,σ=w::tl)/\IsL H ((ds.take i).map f) ys/\ie H1 H,hn,[[U_:1]:1:qi hA _],?_,?_
 ·rintro i σ ys H hi ⟨⟨w,rfl⟩,Z,sm⟩ O ae;exists aa i H sm hi,λx H' y=>?_;erw[hy i H x H' ds[i] sm (uf hi) y,rfl,hx];dsimp![Y5,sO,GG];rw[A6 rfl];refine ac ds[i] x H' _ (uW hi) sm hx λy' H4 s4 ad=>⟨s4 _ _ O,[u_ x:1],?_,λb o e=>?_⟩
  ·have t:Tk H4 (upd H4 A (.lst (ys++ [y']))):=Tk.updL (s4 _ _ O);have e:(ds.take (i+1)).map f=(ds.take i).map f++ [f ds[i]]:=by
    rw[vb,uf hi,uh]
    rfl
   rw[e];exact((Z.mono s4.tk).mono t).append (IsL.one (ad.mono t))
  ·rw[qm (qo e hA)];exact s4 b o (sm b o e)
 ·rintro σ ys H ⟨_,Z,sm⟩ O;exists U H sm,hQ H ys sm O ?_;rwa[ve (ug _)] at Z
def Ao {K:o0}{a A:o6}{H1:Hp}{te:TE}{tl:St}{Q:VK}{ds:om D}{vs:om V}(f:D->D)(ha:H1 a=u_ (.tup vs))(U:IsL H1 ds vs)(hn:↑ds<=Vl)(hA:H1 A=U_)
  (O:∀d x H (R:VK),d∈ds->ie H1 H->Is H d x->(∀y H',ie H H'->Is H' (f d) y->R y H')->te (u_ x::tl) H R)
  (hQ:∀H' ys,ie H1 H'->H' A=u_ (.lst ys)->IsL H' (ds.map f) ys->Q (.ref A) H'):Es A (Itt K a) (Y5 0) sO te (U_::tl) H1 Q:=by
 have ln:=↑U;refine Ep f hn hA (λi H sm hi=>⟨vs,vs[i]'(),SqT.of (sm _ _ ha),uf _⟩) (λi H x H' d sm hd y=>?_) (λH sm=>[vs:SqT.of (sm _ _ ha):()]) O hQ
 erw[y,rfl,y];erw[U.get hd,v,e1,e2];have Z:=y vs (SqT.of (sm _ _ ha));rw[e1] at Z;cases Z;exact[1:e2.mono sm.tk]
def IsL.bls {H:Hp}:∀{bs:om Bool}{vs:om V},IsL H (bs.map D.bl) vs->vs=bs.map V.bl
 | [],_,h=>h
 |_::_,_,h=>by
  erw[h,v,r,rfl,h1,h2];rw[IsL.bls h2,show v=_ from h1];rfl
variable {Q:VK}
def xS {i:Int}{d:D}(h:Is H (.tup ds) v)(hi:atI ds i=u_ d)(q:∀x,Is H d x->Q x H):OD K v (.int i) H Q:=by
 erw[h,a,vs,rfl,ha,O];erw[KI hi,j,h1,h2,h3,h4,h5];erw[O.get h2,x,Z,e2];exists a,vs,i,x,1,1,SqT.of ha,?_,q x e2;have ln:=↑O;unfold atI at hi⊢;rw[ln];cases e:ixN ↑ds i with
 |none=>rw[e] at hi;cases hi
 |some k=>
  rw[e] at hi;erw[Aq e,U,_];rw[h1] at U;cases U;exact Z
nonrec def inS (i j:Str):Bool:= !(G_ j i 0 ↑j 1).isEmpty
def Se (j:Str)(c:Nat):inS ⟨#[c]⟩ j=decide (c∈j.cps.toList):=StrLaws.found_one j c
def Sl {z:Str}{g:TG}{tb:TS}{E:mW}{σ:St}{H:Hp}(O:Nat->St->Hp->Prop)(h0:O 0 σ H)
  (hs:∀(i c:Nat) σ H,z.cps[i]? =u_ c->O i σ H->g (.str ⟨#[c]⟩) σ H λZ H2=>tb {E with nx:=O (i+1),ct:=O (i+1),bk:=E.nx} Z H2) (hd:∀σ H,O z.cps.size σ H->E.nx σ H):
  ∃W:Nat->Nat->St->Hp->Prop,(∃m,W 0 m σ H)/\∀i m σ H,W i m σ H->
   ((Its z).stop i H/\E.nx σ H)∨((Its z).go i H/\∃N:St->Hp->Prop,(∀σ' H',N σ' H'->∃m',m'<m/\W (i+1) m' σ' H')/\∀x H',(Its z).yld i H x H'->g x σ H' λZ H2=>tb {E with nx:=N,ct:=N,bk:=E.nx} Z H2):=by
 exists λi m σ H=>m=z.cps.size-i/\i<=z.cps.size/\O i σ H,⟨z.cps.size,by simp,uG _,h0⟩
 rintro i m σ H ⟨rfl,hi,p⟩;by_cases U:i<z.cps.size
 ·refine .inr ⟨U,O (i+1),λσ' H' p'=>⟨z.cps.size-(i+1),(),1,U,p'⟩,λx H' y=>?_⟩
  erw[y,rfl,c,hc,rfl];exact hs i c σ _ hc p
 ·have e:i=z.cps.size:=by omega
  exact .inl [e:hd σ H (e▸p)]
def IsL.unsnoc {H:Hp}:∀{ds:om D}{d:D}{vs:om V},IsL H (ds++ [d]) vs->∃us x,vs=us++ [x]/\IsL H ds us/\Is H d x
 | [],d,_,h=>by
  erw[h,v,r,rfl,h1,h2];cases(show r= [] from h2)
  exact⟨[],v,1,1,h1⟩
 |e::r,d,_,h=>by
  erw[h,v,q,rfl,h1,h2];erw[IsL.unsnoc h2,us,x,rfl,h3,h4];exact⟨v::us,x,1,⟨v,us,1,h1,h3⟩,h4⟩
nonrec def isStr:D->Bool
 | .str _=>v_
 |_=>Vh
nonrec def XO:D->Bool
 | .tup _=>v_
 |_=>Vh
section
variable {K:o0}
def MX {T U:String}{b:Bool}(h:(Gu T==Gu U)=Vh)(hm:PySem.W.kitMeta U=v_)(O:(fastBuiltinMro T).map (·.contains (Gu U))=u_ b):PySem.W.kitOne K (.type T) (.type U)=u_ b:=by
 unfold PySem.W.kitOne;rw[A4 (by rw[h];exact ua)]
 show(if PySem.W.kitMeta U=v_ then PySem.W.subIn K (.type T) (.type U) else U_)=u_ b
 rw[A6 hm];exact O
def Bv {T:String}(h:(Gu T==Gu T)=v_):PySem.W.kitOne K (.type T) (.type T)=u_ true:=by
 unfold PySem.W.kitOne;rw[A6 h]
def jW (d:D):PySem.W.kitOne K (tyD d) (.type "str")=u_ (isStr d):=by
 cases d with
 |str z=>exact Bv ()
 |_=>exact MX (b:=Vh) () () ()
def JS (d:D):PySem.W.kitOne K (tyD d) (.type "tuple")=u_ (XO d):=by
 cases d with
 |tup z=>exact Bv ()
 |_=>exact MX (b:=Vh) () () ()
end
def Aa1 (c k:Nat):decide ((⟨#[c]⟩:Str).cps.toList< [k])=decide (c<k):=by
 rw[uZ];simp[Fj]
def AaN (c k:Nat):decide ([k]<(⟨#[c]⟩:Str).cps.toList)=decide (k<c):=by
 rw[uZ];simp[Fj]
def Sa {X:Cx}{K:o0}(h:X.K=K):IxR X (OD K):=by subst h;exact qI
def LS {X:Cx}{K:o0}(h:X.K=K):IxR X (Acz K):=by subst h;exact QN
inductive AbU (K:PySem.W.Frag)(R:(It->Hp->Prop))(x:V)(H1:Hp):Prop
 |mk (a:_)(xs:_)(_:x= .ref a)(_:SqT K H1 a xs)(_:(↑xs<=Vl->R (Itt K a) H1))
nonrec def AcT (K:o0)(tl:TE):TI:=λσ H R=>tl σ H λx H1=>AbU K R x H1
def KS {X:Cx}{tg l:Expr}{tl:TE}(U:PE X l tl):PI X tg l (AcT X.K tl):=by
 exists 2,R,I,h;refine thn (U ot s σ H _ I h) λv s1 zq=>?_;erw[zq,x,H1,O,Z,q1];erw[q1,a,xs,e,hq,q];subst e;cases Z;erw[O.tuple hq,its,rv,p,hz];refine T4 (show s1.heap.IsTuple a its.toArray from p) ?_
 exists #[0,s1],[#[0,s1]],_,_,H1,1,O.kept (t':=s1.toks) λb o e=>ud _ e,kf a _,⟨_,uE _ rfl,1,1⟩,λb hb=>?_,q hz;have e:b=#[0,s1]:=by simpa using hb
 subst e;exact O.fpOk (ug _) (O.hok.fresh (ug _))
variable {X:Cx}
def Iq:Yv X (.builtin "len") (λxs H Q=>∃p ys,xs= [.ref p]/\(SqL X.K H p ys∨SqT X.K H p ys)/\(↑ys<=Vl->Q (.int ↑ys) H)):=by
 exists 2,xs,us,Q,I,r,h;erw[h,p,ys,e,O,q];have U:↑ys<=sizeLine:=by
  rcases O with O|O
  ·exact(I.list O).choose_spec.2.2
  ·exact(I.tuple O).choose_spec.2.2
 exact qL ot s σ H xs us Q I r ⟨p,ys,e,O,q U⟩
variable {n:Nat}
def JU (h:n<=↑xs):sN xs (u_ (n:Int)) U_=xs.drop n:=by
 unfold sN;rw[HT.sIx_none,HT.sIx_nat,Fp h];exact ve (by rw[vG];exact ug _)
end L2
namespace L2
open PySem PySem.Spec PyProof.Rows Builtin Builtin.Str
nonrec def mU (c:Nat):om Nat->Nat->om Nat
 | [],_=> []
 |a::r,i=>if a=c then i::mU c r (i+1) else mU c r (i+1)
nonrec def iV (c:Nat):Nat->om Nat->om (om Nat)
 |0,L=> [L]
 |_+1,[]=> [[]]
 |n+1,a::r=>if a=c then []::iV c n r else match iV c (n+1) r with
  |p::q=>(a::p)::q
  | []=> [[a]]
nonrec def ofL (l:om Nat):Str:=⟨l.toArray⟩
def ye (z:Str):ofL z.cps.toList=z:=by
 unfold ofL;simp
def Jw (c:Nat):∀(n:Nat) (L:om Nat),∃p q,iV c n L=p::q
 |0,L=>⟨L,[],by simp[iV]⟩
 |n+1,[]=>⟨[],[],by simp[iV]⟩
 |n+1,a::r=>by
  by_cases h:a=c
  ·exact⟨[],iV c n r,by simp[iV,h]⟩
  ·erw[Jw c (n+1) r,p,q,e];exact⟨a::p,q,by simp[iV,h,e]⟩
def BQ {c:Nat}{n:Nat}{r:om Nat}:∀{p:om Nat},c∉p->iV c (n+1) (p++c::r)=p::iV c n r
 | [],_=>by simp[iV]
 |a::p,h=>by
  have h1:a≠c:=λe=>h (by simp[e])
  have O:=BQ (n:=n) (r:=r) (p:=p) (λz=>h (uc _ z));show iV c (n+1) (a::(p++c::r))=_;rw[iV,A4 h1,O]
def wy {c:Nat}{n:Nat}:∀{p:om Nat},c∉p->iV c n p= [p]
 | [],_=>by cases n<;>simp[iV]
 |a::p,h=>by
  have h1:a≠c:=λe=>h (by simp[e])
  cases n with
  |zero=>simp[iV]
  |succ n=>
   have O:=wy (n:=n+1) (p:=p) (λz=>h (uc _ z));rw[iV,A4 h1,O]
def B8 (x:Str)(c i:Nat)(h:i<↑x):subAt x ⟨#[c]⟩ i=decide (x.cps.toList[i]? =u_ c):=by
 rw[FG];have O:i<↑x.cps.toList:=by simpa [VX] using h
 have U:(x.cps.toList.drop i).take 1= [x.cps.toList[i]]:=by
  rw[vm O]
  rfl
 show((x.cps.toList.drop i).take 1== [c])=_;rw[U,uf O];generalize x.cps.toList[i]=k;by_cases e:k=c
 ·simp[e]
 ·simp[e]
def oG (x:Str)(c n:Nat):∀(m k:Nat) (found:Array Nat) (free:Nat),k+m=↑x+1->free<=k->
  (gQ (gW k m) (found,free) (Gm x ⟨#[c]⟩ ↑x n)).run.fst.toList=found.toList++(mU c (x.cps.toList.drop k) k).take (n-found.size)
 |0,k,found,free,hk,_=>by
  have hl:↑x.cps.toList<=k:=by simp[VX] at hk⊢;omega
  rw[Uu hl];simp[mU]
 |m+1,k,found,free,hk,hf=>by
  rw[Fu,UD];unfold Gm;have ac:↑x.cps.toList=↑x:=by simp[VX]
  by_cases Z:k<↑x
  ·have aa:k<↑x.cps.toList:=by omega
   rw[vm aa];have hs:=B8 x c k Z;rw[uf aa] at hs;by_cases e:x.cps.toList[k]=c
   ·have O:subAt x ⟨#[c]⟩ k=true:=by rw[hs,e];simp
    by_cases hn:found.size<n
    ·rw[A6 ⟨⟨[hn:hf],by show k+1<=↑x;omega⟩,O⟩]
     have U:=oG x c n m (k+1) (found.push k) (k+1) () (ug _)
     show(gQ (gW (k+1) m) (found.push k,k+1) (Gm x ⟨#[c]⟩ ↑x n)).run.fst.toList=_;rw[U];rw[mU,A6 e,Array.toList_push,Rx];obtain⟨j,hj⟩:∃j,n-found.size=j+1:=[n-found.size-1:()]
     rw[hj,US,show n-(found.size+1)=j by omega]
     simp
    ·rw[A4 (λz=>hn z.1.1.1)];have U:=oG x c n m (k+1) found free () ()
     show(gQ (gW (k+1) m) (found,free) (Gm x ⟨#[c]⟩ ↑x n)).run.fst.toList=_;rw[U,show n-found.size=0 by omega]
     simp
   ·have O:¬subAt x ⟨#[c]⟩ k=true:=by rw[hs];intro z;exact e (uF (um z))
    rw[A4 (λz=>O z.2)];have U:=oG x c n m (k+1) found free () ()
    show(gQ (gW (k+1) m) (found,free) (Gm x ⟨#[c]⟩ ↑x n)).run.fst.toList=_;rw[U,mU,A4 e]
  ·rw[A4 (λz=>Z (by have:=z.1.2;show k<↑x;have h1:k+1<=↑x:=this;omega))]
   have U:=oG x c n m (k+1) found free () ()
   show(gQ (gW (k+1) m) (found,free) (Gm x ⟨#[c]⟩ ↑x n)).run.fst.toList=_;rw[U];have h1:↑x.cps.toList<=k:=by omega
   rw[Uu h1,Uu ()]
   simp[mU]
def Kr (x:Str)(c n:Nat):occurrences x ⟨#[c]⟩ 0 ↑x n=(mU c x.cps.toList 0).take n:=by
 rw[FK];have:=oG x c n (↑x+1) 0 #[] 0 () (ug _)
 simpa using this
nonrec def att (p:om Nat):om (om Nat)->om (om Nat)
 |q::r=>(p++q)::r
 | []=> [p]
def Lp (x:Str)(c:Nat):∀(m n a b:Nat),a<=b->b+m=↑x->
  HD x 1 a ((mU c (x.cps.toList.drop b) b).take n)=(att ((x.cps.toList.drop a).take (b-a)) (iV c n (x.cps.toList.drop b))).map ofL:=by
 have ac:↑x.cps.toList=↑x:=by simp[VX]
 have O:∀i j,strSub x i j=ofL ((x.cps.toList.drop i).take (j-i)):=λi j=>by
  rw[<-ye (strSub x i j),RS]
 intro m
 induction m with
 |zero=>
  intro n a b aa hb;have h1:x.cps.toList.drop b= []:=Uu ()
  rw[h1];have e1:iV c n []= [[]]:=by cases n<;>simp[iV]
  rw[e1];simp![mU,TC,HD,att,vg,ur,Uk];rw[O,show ↑x-a=b-a by omega]
 |succ m ih=>
  intro n a b aa hb;have U:b<↑x.cps.toList:=by omega
  rw[vm U];cases n with
  |zero=>
   simp![TV,HD,iV,att,ur,Uk];rw[O,<-vm U];have Z:(x.cps.toList.drop a).take (↑x-a)=x.cps.toList.drop a:=ve (by rw[vG];omega)
   have e3:x.cps.toList.drop b=(x.cps.toList.drop a).drop (b-a):=by rw[List.drop_drop];congr 1;omega
   rw[Z,e3,tG]
  |succ n=>
   by_cases e:x.cps.toList[b]=c
   ·rw[mU,A6 e,US,HD,iV,A6 e];rw[ih n (b+1) (b+1) (ug _) ()]
    erw[Jw c n (x.cps.toList.drop (b+1)),p,q,Z];rw[Z,O];simp[att]
   ·rw[mU,A4 e,ih (n+1) a (b+1) () (),iV,A4 e]
    erw[Jw c (n+1) (x.cps.toList.drop (b+1)),p,q,Z];rw[Z];simp![att,ur]
    congr 2
    have e3:b+1-a=(b-a)+1:=by omega
    have hx:b-a<↑(x.cps.toList.drop a):=by rw[vG];omega
    rw[e3,List.take_succ_eq_append_getElem hx];simp[show a+(b-a)=b by omega]
def oy (x:Str)(c n:Nat):partsBetween x (occurrences x ⟨#[c]⟩ 0 ↑x n) 1=(iV c n x.cps.toList).map ofL:=by
 rw[StrLaws.partsBetween_eq,Kr];have:=Lp x c ↑x n 0 0 (ug _) ()
 rw[Hu] at this;rw[this];erw[Jw c n x.cps.toList,p,q,e];rw[e];simp[att]
def wW {c:Nat}:∀{L:om Nat}{i:Nat},mU c L i= []->c∉L
 | [],_,_=>by simp
 |a::r,i,h=>by
  by_cases e:a=c
  ·simp[mU,e] at h
  ·rw[mU,A4 e] at h;have:=wW h;simp[UC e,this]
def XR:∀(l:om Str) (k:Nat),iq (l.map V.str) (strsFrom k l)
 | [],_=> .nil
 |x::r,k=> .cons [k:1] (XR r (k+1))
def X6:∀{l:om Str}{us:om o7},iq (l.map V.str) us->∃ps:om (Str×Tok),us=Hj ps/\ps.map (·.1)=l
 | [],_,.nil=>[[]:1:1]
 |x::r,_,.cons ⟨t,e⟩ h=>by
  erw[X6 h,ps,O,U];subst e;exact⟨(x,t)::ps,by rw[O];rfl,by rw[ur,U]⟩
def kc (z:Str):¬VH z<VH " ":=by
 have h1:VH " "=1:=by decide+kernel
 rw[h1];unfold VH;split
 ·omega
 ·split<;>omega
def Ks (c:Nat):∀(n:Nat) (L:om Nat),↑(iV c n L)<=↑L+1
 |0,L=>by simp[iV]
 |n+1,[]=>by simp[iV]
 |n+1,a::r=>by
  by_cases h:a=c
  ·have:=Ks c n r;simp[iV,h];omega
  ·have:=Ks c (n+1) r;erw[Jw c (n+1) r,p,q,e];rw[e] at this;simp![iV,A4 h,e];simp at this⊢;omega
nonrec def spl (n:Nat)(z:Str):om Str:=(iV 32 n z.cps.toList).map ofL
def C3 (n:Nat)(z:Str):↑(spl n z)<=↑z+1:=by
 unfold spl;rw[u9];have:=Ks 32 n z.cps.toList
 simpa [VX] using this
def xc:(" ":Str)=⟨#[32]⟩:=by decide+kernel
variable {z:Str}{n:Nat}
def C0 (hn:↑z<=n∨↑z<1∨True)(h:(occurrences z " " 0 ↑z n).isEmpty=v_)(h0:n≠0):spl n z= [z]:=by
 rw[xc,Kr,List.isEmpty_iff] at h;have h1:mU 32 z.cps.toList 0= []:=by
  cases e:mU 32 z.cps.toList 0 with
  |nil=>rfl
  |cons a r=>
   rw[e] at h;obtain⟨k,rfl⟩:∃k,n=k+1:=[n-1:()]
   simp at h
 unfold spl;rw[wy (wW h1)];simp[ye]
section
variable {X:Cx}
inductive Aav (x:V)(vs:List V)(H:Hp)(Q:VK):Prop
 |mk (z:_)(_:x= .str z)(_:vs= [.str " "])(_:↑z<=1000)(_:∀p,H p=U_->Q (.ref p) (upd H p (.lst ((spl (↑z+1) z).map V.str))))
variable {ot:om (o6×Obj)}{σ:St}{H:Hp}{s:o8}{Q:VK}{ys:om V}{its:om o7}{t':Nat}
def xk (I:#[I])(O:iq ys its)(U:↑ys<=Vl)(q:∀p,H p=U_->Q (.ref p) (upd H p (.lst ys)))(Z:0<t':=by ac_rfl):
  EP X ot σ Q (.ref #[0,s]) {s with heap:=s.heap.push {cls:= .type "list",data:= .seq its.toArray},toks:=t'}:=
 ⟨.ref #[0,s],_,I.lnew O U,1,q _ I.fresh⟩
def Br:MtM X "str.split" Aav:=by
 exists 2,x,vs,v,us,Q,I,Z,rv,h;erw[h,z,rfl,rfl,hz,q];erw[Z,t,rfl];erw[rv.one,u,rfl,t',rfl];have O:↑z<=sizeLine:=by rw[uw];omega
 have one:spl (↑z+1) z= [z]->∀(T:Nat),0<T->EP X ot σ Q (.ref #[0,s]) {s with heap:=s.heap.push {cls:= .type "list",data:= .seq [VI z t].toArray},toks:=T}:=λe T hT=>by
  rw[e] at q;exact xk (ys:= [V.str z]) I (.cons (show ik (V.str z) _ from[t:1]) .nil) (by show 1<=Vl;decide) q
 cases h1:(decide (↑z<(" ":Str).length)||decide (VH z<VH " ")) with
 |true=>
  refine vL vI (vU _ _ _) vB (U7 _ _) (rQ z " " t t' h1) ?_;have h2:↑z<1:=by
   rw[HB] at h1;rcases h1 with h1|h1
   ·exact um h1
   ·exact Aa (um h1) (kc z)
  refine one ?_ s.toks I.tk;have e:z.cps.toList= []:=Uq (by simpa [VX] using h2)
  unfold spl;rw[e,iV];rw[<-ye z,e]
  rfl
 |false=>
  cases U:(occurrences z " " 0 ↑z (↑z+1)).isEmpty with
  |true=>
   refine vL vI (vU _ _ _) vB (U7 _ _) (Fi z " " t t' h1 () U) ?_
   exact one (C0 (.inr (.inr trivial)) U ()) s.toks I.tk
  |false=>
   have hl:=C3 (↑z+1) z;have e:partsBetween z (occurrences z " " 0 ↑z (↑z+1)) (" ":Str).length=spl (↑z+1) z:=by
    rw[xc];exact oy z 32 (↑z+1)
   refine vL vI (vU _ _ _) vB (U7 _ _) (FV z " " t t' h1 () U O (by rw[e,uw];omega)) ?_
   rw[e];exact xk I (XR _ _) (by rw[u9,uw];omega) q
def Xd (x y:Str)(k:Int)(t u v:Tok)(Z:(decide (k< -(2^63:Int))||decide (k≥2^63))=Vh)(h1:(decide (↑x<↑y)||decide (VH x<VH y))=Vh)(hy:(↑y==0)=Vh)
  (hf:(occurrences x y 0 ↑x (GY x k)).isEmpty=v_):Meets («str.split» [[.str x t,.str y u,.int k v]:[]]) (FW x t):=by
 erw[Ra x y k t u v Z,U,O];refine .of_wp λprog w A R s h=>?_;rw[O,h1,hy,hf];show Vi _ _ (do rule "str.split.same-object";ret (<-Hq [.str x t])) _ _ s
 exact A8 (V6 (A8 (Va (uz [0:h]) (by show 1<=Vl;decide))))
def Jg (x y:Str)(k:Int)(t u v:Tok)(Z:(decide (k< -(2^63:Int))||decide (k≥2^63))=Vh)(h1:(decide (↑x<↑y)||decide (VH x<VH y))=v_):
  Meets («str.split» [[.str x t,.str y u,.int k v]:[]]) (FW x t):=by
 erw[Ra x y k t u v Z,U,O];refine .of_wp λprog w A R s h=>?_;rw[O,h1];show Vi _ _ (do rule "str.split.sep-cannot-occur";ret (<-Hq [.str x t])) _ _ s
 exact A8 (V6 (A8 (Va (uz [0:h]) (by show 1<=Vl;decide))))
inductive OB (x:V)(vs:List V)(H:Hp)(Q:VK):Prop
 |mk (z:Str)(n:Nat)(_:x= .str z)(_:vs= [.str " ",.int (n:Int)])(_:↑z<=1000)(_:0<n)(_:n<=1000)(_:∀p,H p=U_->Q (.ref p) (upd H p (.lst ((spl n z).map V.str))))
def Ei:MtM X "str.split" OB:=by
 exists 2,x,vs,v,us,Q,I,rx,rv,h;erw[h,z,n,rfl,rfl,hz,ac,hn,q];erw[rx,t,rfl];erw[CF rv,u,u',rfl,[t',rfl],[U,rfl]];have aa:↑z<=sizeLine:=by rw[uw];omega
 have hk:(decide ((n:Int)< -(2^63:Int))||decide ((n:Int)≥2^63))=false:=by
  rw[ub (),ub ()];rfl
 have O:GY z (n:Int)=n:=by
  unfold GY;rw[A4 ()]
  omega
 have one:spl n z= [z]->∀(T:Nat),0<T->EP X ot σ Q (.ref #[0,s]) {s with heap:=s.heap.push {cls:= .type "list",data:= .seq [VI z t].toArray},toks:=T}:=λe T hT=>by
  rw[e] at q;exact xk (ys:= [V.str z]) I (.cons (show ik (V.str z) _ from[t:1]) .nil) (by show 1<=Vl;decide) q
 cases h1:(decide (↑z<(" ":Str).length)||decide (VH z<VH " ")) with
 |true=>
  refine vL vI (vU _ _ _) vB (F.args_str_split_3 _ _ _) (Jg z " " n t t' U hk h1) ?_;have h2:↑z<1:=by
   rw[HB] at h1;rcases h1 with h1|h1
   ·exact um h1
   ·exact Aa (um h1) (kc z)
  refine one ?_ s.toks I.tk;have e:z.cps.toList= []:=Uq (by simpa [VX] using h2)
  obtain⟨j,rfl⟩:∃j,n=j+1:=[n-1:()]
  unfold spl;rw[e,iV];rw[<-ye z,e]
  rfl
 |false=>
  cases Z:(occurrences z " " 0 ↑z (GY z (n:Int))).isEmpty with
  |true=>
   refine vL vI (vU _ _ _) vB (F.args_str_split_3 _ _ _) (Xd z " " n t t' U hk h1 () Z) ?_
   rw[O] at Z;exact one (C0 (.inr (.inr trivial)) Z ()) s.toks I.tk
  |false=>
   have hl:=C3 n z;have e:partsBetween z (occurrences z " " 0 ↑z (GY z (n:Int))) (" ":Str).length=spl n z:=by
    rw[xc,O];exact oy z 32 n
   refine vL vI (vU _ _ _) vB (F.args_str_split_3 _ _ _) (meets_str_split_sep_max z " " n t t' U hk h1 () Z aa (by rw[e,uw];omega)) ?_
   rw[e];exact xk I (XR _ _) (by rw[u9,uw];omega) q
nonrec def xt (c:Nat):om Nat->om Nat
 | []=> []
 |a::r=>if a=c then [] else a::xt c r
def oU {c:Nat}:∀{L:om Nat}{i j:Nat}{r:om Nat},mU c L i=j::r->i<=j/\xt c L=L.take (j-i)
 | [],_,_,_,h=>by simp[mU] at h
 |a::q,i,j,r,h=>by
  by_cases e:a=c
  ·rw[mU,A6 e] at h;cases h;exact⟨ug _,by simp[xt,e]⟩
  ·rw[mU,A4 e] at h;erw[oU h,h1,h2];exists ()
   rw[xt,A4 e,h2,show j-i=(j-(i+1))+1 by omega,US]
def zU {c:Nat}:∀{L:om Nat},c∉L->xt c L=L
 | [],_=>rfl
 |a::r,h=>by
  have h1:a≠c:=λe=>h (by simp[e])
  rw[xt,A4 h1,zU λz=>h (uc _ z)]
nonrec def hd (z:Str):Str:=ofL (xt 32 z.cps.toList)
def EX (I:#[I])(O:iq ys its)(U:↑ys<=Vl)(q:∀p,H p=U_->Q (.ref p) (upd H p (.tup ys)))(Z:0<t':=by ac_rfl):
  EP X ot σ Q (.ref #[0,s]) {s with heap:=s.heap.push {cls:= .type "tuple",data:= .seq its.toArray},toks:=t'}:=
 ⟨.ref #[0,s],_,I.laid (o:= .tup ys) (λ_ _ w=>ud _ w) (ug _) ⟨U,its,O,hX _ _⟩,1,q _ I.fresh⟩
inductive Acx (x:V)(vs:List V)(H:Hp)(Q:VK):Prop
 |mk (z:_)(_:x= .str z)(_:vs= [.str " "])(_:↑z<=1000)(_:∀p a b,H p=U_->Q (.ref p) (upd H p (.tup [.str (hd z),.str a,.str b])))
def PN:MtM X "str.partition" Acx:=by
 exists 2,x,vs,v,us,Q,I,rx,rv,h;erw[h,z,rfl,rfl,hz,q];erw[rx,t,rfl];erw[rv.one,u,rfl,t',rfl];have U:↑z<=sizeLine:=by rw[uw];omega
 refine vL F.slot_str_partition (vU _ _ _) F.entry_str_partition (F.args_str_partition_2 _ _) (meets_str_partition z " " t t' () U) ?_
 cases O:occurrences z " " 0 ↑z 1 with
 |nil=>
  have h0:hd z=z:=by
   rw[xc,Kr] at O;have h1:mU 32 z.cps.toList 0= []:=by
    cases e:mU 32 z.cps.toList 0 with
    |nil=>rfl
    |cons a r=>rw[e] at O;simp at O
   unfold hd;rw[zU (wW h1),ye]
  refine EX (ys:= [.str (hd z),.str tJ,.str tJ]) (t':=s.toks+1) I (.cons (show ik (V.str (hd z)) _ from⟨t,by rw[h0]⟩) (.cons (show ik (V.str _) _ from⟨0⟩) (.cons (show ik (V.str _) _ from⟨0⟩) .nil))) (by show 3<=Vl;decide) λp Z=>q p _ _ Z
 |cons i r=>
  have h0:hd z=strSub z 0 i:=by
   rw[xc,Kr] at O;cases e:mU 32 z.cps.toList 0 with
   |nil=>rw[e] at O;simp at O
   |cons a r'=>
    rw[e] at O;have:a=i:=by simp at O;exact O.1
    subst this;erw[oU e,_,h2];unfold hd;rw[h2,<-ye (strSub z 0 a),RS,Hu]
  refine EX (ys:= [.str (hd z),.str " ",.str _]) (t':=s.toks+1+1) I (.cons (show ik (V.str (hd z)) _ from⟨s.toks,by rw[h0]⟩) (.cons (show ik (V.str _) _ from[t':1]) (.cons (show ik (V.str _) _ from[s.toks+1:1]) .nil))) (by show 3<=Vl;decide) λp Z=>q p _ _ Z
inductive Aax (K:PySem.W.Frag)(x:V)(vs:List V)(H:Hp)(Q:VK):Prop
 |mk (sep:Str)(p:Addr)(l:List Str)(_:x= .str sep)(_:vs= [.ref p])(_:SqL K H p (l.map V.str))(_:(l.map (·.length)).sum+↑l*↑sep<=1000000)(_:Q (.str (Vq sep l)) H)
def qai:MtM X "str.join" (Aax X.K):=by
 exists 2,x,vs,v,us,Q,I,rx,rv,h;erw[h,sep,p,l,rfl,rfl,hp,hz,q];erw[rx,t,rfl];erw[rv.one,u,rfl,ru];cases ru;erw[I.list hp,its,r,pl,hl];erw[X6 r,ps,rfl,Z];have U:tooLong ((ps.map (·.1)).toArray.foldl (·+ ·.length+↑sep) 0)=false:=by
  rw[Z];have:=pE sep l;rw[this];unfold tooLong;refine ub ?_;rw[uw];omega
 refine vL F.slot_str_join (vU _ _ _) F.entry_str_join (F.args_str_join_2 _ _) (meets_str_join_list sep t p ps U) [pl.isList:?_];have O:(glued sep (ps.map (·.1))).length<=sizeLine:=Rc U
 match ps,Z,O with
 | [],Z,O=>
  subst Z;exact⟨O,.str _,H,I.tok _,⟨0⟩,q⟩
 | [a],Z,_=>
  subst Z;exact⟨.str _,H,I,[a.2:1],q⟩
 |a::b::r,Z,O=>
  subst Z;exists O,.str _,H,I.tok _,⟨0⟩;rw[p9];exact q
def Ir:Yv X (.type "int") (λxs H Q=>∃z n,xs= [.str z]/\PySem.intText? z=u_ n/\↑z<=640/\Q (.int n) H):=by
 exists 2,xs,us,Q,I,r,h;erw[h,z,n,rfl,hn,O,q];erw[jQ r,u,rfl,t,rfl];exact PySem.W.KIN.call_text hn O ⟨.int n,H,I.tok _,⟨0⟩,q⟩
end
end L2
namespace L2
open PySem PySem.Spec PyProof.Rows
variable {X:Cx}{ot:om (o6×Obj)}{σ:St}{H:Hp}{s:o8}{h':o9}{t':Nat}{fp:om o6}
def Inv.turnedL (I:#[I])(k:∀b o,b∉fp->s.heap.get? b=u_ o->h'.get? b=u_ o)(U:∀b∈fp,AF X ot H b)(ht:0<t':=by ac_rfl):Inv X ot σ H {s with heap:=h',toks:=t'}:=by
 have Z:∀b u,H b=u_ u->b∉fp:=λb u e z=>by
  have:=(U b z).1;rw[this] at e;cases e
 have nL:X.env.locals∉fp:=λz=>(U _ z).2.1 rfl;refine I.step (g':=s.gens) (d':=s.drawn) (ch:=fp) (λb hb=>⟨(U b hb).2.2.2.1,(U b hb).2.1,(U b hb).2.2.2.2.1,(U b hb).2.2.2.2.2⟩) (λb o _ _ O e _=>k b o O e) (λb o _ _ O e _=>[o.slots:k b o O e]) (λ_ _ _ _ n=>n)
  (λb o O e=>[o:k b o O e]) (λ_ _ e=>e) (λ_ _ _ e=>e) (λb ps e=>⟨#[],by rw[e];simp⟩) (λm hm=>?_) (λb u e=>?_) I.bare
 ·erw[hm,o,es,ep,ho,r];exact⟨o,es,ep,k _ o nL ho,r⟩
 ·refine(I.hok b u e).stay (λc v O q=>k c v ?_ q) (λ_ q=>q) λ_ _ q=>q;rcases O with z|z
  ·rw[z];exact Z b u e
  ·exact Z c _ z
def Inv.handed {X:Cx}{ot:om (o6×Obj)}{σ:St}{H:Hp}{s:o8}{h':o9}{t':Nat}{fp:om o6}{ys:om V}{its:om o7}(I:#[I])(Z:∀b∈fp,AF X ot H b)(hl:∀b∈fp,b<#[0,s])(hv:iq ys its)(hz:↑ys<=Vl)
  (hn:h'.get? #[0,s]=u_ {cls:= .type "tuple",data:= .seq its.toArray}) (hs:h'.objs.size=#[0,s]+1) (k:∀b o,b∉fp->s.heap.get? b=u_ o->h'.get? b=u_ o) (ht:0<t':=by ac_rfl):
  Inv X ot σ (upd H #[0,s] (.tup ys)) {s with heap:=h',toks:=t'}/\∀b∈fp,AF X ot (upd H #[0,s] (.tup ys)) b:=by
 have I1:Inv X ot σ (upd H #[0,s] (.tup ys)) {s with heap:=s.heap.push {cls:= .type "tuple",data:= .seq its.toArray},toks:=t'}:=
  I.laid (o:= .tup ys) (λ_ _ w=>ud _ w) (ug _) ⟨hz,its,hv,hX _ _⟩
 have O:∀b∈fp,AF X ot (upd H #[0,s] (.tup ys)) b:=λb U=>by
  erw[Z b U,f0,f1,f2,f3,f4,f5];have:=hl b U;exact⟨by rwa[qm (uO this)],f1,f2,f3,f4,f5⟩
 exists I1.turnedL (h':=h') (t':=t') (λb o U e=>?_) O,O;rcases Heap.get?_push_cases (show(s.heap.push {cls:= .type "tuple",data:= .seq its.toArray}).get? b=u_ o from e) with⟨rfl,rfl⟩|e'
 ·exact hn
 ·exact k b o U e'
nonrec def Itz (K:o0)(a b:o6):It:=
 ⟨λi H=>∃xs ys x y,SqT K H a xs/\SqL K H b ys/\xs[i]? =u_ x/\ys[i]? =u_ y,
  λi H v H'=>∃p x y,v= .ref p/\H p=U_/\H'=upd H p (.tup [x,y])/\(∀xs,SqT K H a xs->xs[i]? =u_ x)/\∀ys,SqL K H b ys->ys[i]? =u_ y,
  λi H=>∃xs,SqT K H a xs/\↑xs=i⟩
nonrec def tnZ (a b z p r i j:o6)(k:Nat)(h:o9):Prop:=
 VL h z p r .none/\Vx h p (.ref i) (.ref j)/\(∃u v,Vx h r u v)/\h.IsTupleIter i a k/\h.IsListIter j b k/\AwZ.Apt z p r i j a b
variable {w:oh}{K:o0}
def IK {P:og}{aa:om Expr}{c:Nat}{tp:Pos}(a b z p r i j:o6):Np P w K (.Tuple aa c tp) (Itz K a b) [z,p,r,i,j] z (tnZ a b z p r i j) where
 mem:=by simp
 obj:=λk h st x hx=>by
  erw[st,h1,h2,[u,v,h3],[o4,e4,c4,d4],[o5,e5,c5,d5],D];simp![uC,vk,uP] at hx;rcases hx with rfl|rfl|rfl|rfl|rfl
  ·exact⟨_,h1,λv z=>by cases z⟩
  ·exact⟨_,h2,λv z=>by cases z⟩
  ·exact⟨_,h3,λv z=>by cases z⟩
  ·exact⟨o4,e4,λv z=>by rw[d4] at z;cases z⟩
  ·exact⟨o5,e5,λv z=>by rw[d5] at z;cases z⟩
 keep:=λk h h' st kk=>by
  erw[st,h1,h2,[u,v,h3],[o4,e4,r4],[o5,e5,r5],D];exact⟨kk z (by simp) _ h1,kk p (by simp) _ h2,⟨u,v,kk r (by simp) _ h3⟩,⟨o4,kk i (by simp) _ e4,r4⟩,⟨o5,kk j (by simp) _ e5,r5⟩,D⟩
 item:=by
  intro X hP hw hK O k ot s σ H E I hf st hg;subst hP hw hK;erw[hg,xs,ys,x,y,ha,hb,hx,hy];erw[I.tuple ha,its,ra,pa,za];erw[I.list hb,ak,rb,pb,zb];erw[ra.get hx,ux,ae,af];erw[rb.get hy,uy,ag,ah];erw[st,h1,h2,[u,v,h3],h4,h5,D];have l1:=uB h1;have l2:=uB h2;have l3:=uB h3;have l4:i<#[0,s]:=by erw[h4,o,e,_];exact uB e
  have l5:j<#[0,s]:=by erw[h5,o,e,_];exact uB e
  refine AwZ.zip_go D h1 h2 h3 h4 h5 (show s.heap.IsTuple a its.toArray from pa) pb.isList (x:=ux) (y:=uy) (by simpa using ae) (by simpa using ag) λh' g1 g2 g3 g4 g5 g6 g7=>?_
  have g8:Vx h' p (.ref i) (.ref j):=g7 _ _ D.pz D.pr D.pi D.pj h2;obtain⟨I1,ac⟩:=I.handed (t':=s.toks) (ys:= [x,y]) (its:= [ux,uy]) hf (λc O=>by
   simp![uC,vk,uP] at O;rcases O with rfl|rfl|rfl|rfl|rfl<;>assumption) (.cons af (.cons ah .nil)) (by show 2<=Vl;decide) g5 g6 (λc o O e=>by
    simp![uC,vk,uP,Vf] at O;exact g7 c o O.1 O.2.2.1 O.2.2.2.1 O.2.2.2.2 e)
  exists 0,wpAny_letOwnedTupleGo_zip (s:={s with heap:=h'}) g1 λad z2 s2=>?_
  have U:∀c o,c≠z->h'.get? c=u_ o->ad.get? c=u_ o:=λc o O e=>s2.extBut c o O e;exists .ref #[0,s],_,I1.turnedL (fp:= [z]) (h':=ad) (t':=s.toks) (λc o O e=>U c o (by simpa using O) e) (λc O=>ac c (by simp at O;simp[O])),1,⟨_,x,y,1,I.fresh,1,λzs Z=>?_,λzs Z=>?_⟩,⟨z2,U _ _ D.pz g8,[_:_:U _ _ D.rz g2],?_,?_,D⟩,λc O=>(ac c O).1
  ·rwa[I.tuple_inj Z ha]
  ·rwa[I.list_inj Z hb]
  ·erw[g3,o,e,q];exact[o:U _ _ D.iz e:q]
  ·erw[g4,o,e,q];exact[o:U _ _ D.jz e:q]
 done:=by
  intro X hP hw hK O k ot s σ H E I hf st hg;subst hP hw hK;erw[hg,xs,ha,hx];erw[I.tuple ha,its,ra,pa,za];have hl:=↑ra;erw[st,h1,h2,[u,v,h3],h4,h5,D];refine AwZ.zip_stop (A:=X.A) (I.ok.hd O) D h1 h2 h4 (show s.heap.IsTuple a its.toArray from pa) (by simp;omega) λh' kk=>[1:?_]
  exact I.turnedL (t':=s.toks) (λc o O e=>by
   simp![uC,vk,uP,Vf] at O;exact kk c o O.1 O.2.2.1 O.2.2.2.1 O.2.2.2.2 e) hf
 self:=λ_ _ _ _ _ st h=>Fs st.1 h
section
variable {X:Cx}
variable {n:Nat}
def AbD {a b:Nat}(ha:a<n)(O:b<n):AwZ.Apt (n+4) (n+2) (n+3) n (n+1) a b:=by
 constructor<;>exact(show _≠((_:Nat)) by omega)
def Sm {x:Nat}(h:x=n+4∨x=n+2∨x=n+3∨x=n∨x=n+1):n<=x:=by omega
nonrec def Aec (K:o0)(ta:TA):TI:=λσ H R=>ta σ H λvs H1=>∃a b xs ys,vs= [.ref a,.ref b]/\SqT K H1 a xs/\SqL K H1 b ys/\R (Itz K a b) H1
def AaB {U:om Expr}{c:Nat}{tp p pos:Pos}{e1 O:Expr}{ta:TA}(hg:Gl X "zip")(hm:X.mg "zip"=U_)(ha:PA X [e1,O] ta)(hs:Vm [e1,O] X.env= [(Vh,eval e1 X.env),(Vh,eval O X.env)])(Z:Vm [O] X.env= [(Vh,eval O X.env)]):
  PI X (.Tuple U c tp) (.Call (.Name "zip" p) [e1,O] [] pos) (Aec X.K ta):=by
 exists 2,R,I,h;refine HZ (zh I hg hm boot_zip (vf (thn (ha pos ot s σ H _ I h) λus s1 zq=>?_) (by rw[hs,Z]) (by rw[Z];rfl)));erw[zq,vs,H1,I1,r1,q1]
 erw[q1,a,b,xs,ys,e,hA,hB,q];subst e;erw[CF r1,u,u',rfl,ru,ac];cases ru;cases ac;erw[I1.tuple hA,its,ra,pa,za];erw[I1.list hB,ad,rb,pb,zb];have la:a<#[0,s1]:=by erw[id pa,o,e,_];exact uB e
 have lb:b<#[0,s1]:=by erw[id pb,o,n,e,_];exact uB e
 refine AwZ.zip_call (show s1.heap.IsTuple a its.toArray from pa) pb.isList λh2 g1 g2 g3 g4 g5 g6 g7=>?_
 refine Fs (s:={s1 with heap:=h2}) g1 ?_
 exists _,[#[0,s1]+4,#[0,s1]+2,#[0,s1]+3,#[0,s1],#[0,s1]+1],_,_,H1,1,I1.kept (t':=s1.toks) g7,IK a b _ _ _ _ _,⟨g1,g2,[_:_:g3],g4,g5,?_⟩,λx hx=>?_,q
 ·exact AbD la lb
 ·have aa:#[0,s1]<=x:=by
   simp![uC,vk,uP] at hx;exact Sm hx
  exact I1.fpOk aa (I1.hok.fresh aa)
nonrec def IC (K:o0)(w:oh)(a:o6):Prop:=(a==VF)=Vh/\∃es n,K.lookup a=u_ ⟨.type "dict",U_,.dict es n,#[]⟩/\PySem.W.KeysLit w.params es.toList
inductive Acy (K:PySem.W.Frag)(w:World)(x:V)(y:V)(H:Hp)(Q:VK):Prop
 |mk (z:_)(a:_)(r:_)(_:x= .str z)(_:y= .ref a)(_:IC K w a)(_:PySem.W.nsIn K a z=u_ r)(_:Q (.bl (!r.isSome)) H)
def OP:OpR X (Vt .NotIn) (Acy X.K X.w):=by
 exists 2,x,y,v,u,Q,I,U,Z,h;erw[h,z,a,r,rfl,rfl,[hs,es,n,O,hk],hn,q];erw[U,t,rfl];cases Z;have hm:=PySem.W.mapOf_K (prog:=X.prog) (w:=X.w) I.kIn O hk;refine R8 (Tn X.prog X.w z t) hs hm ⟨.bl (!r.isSome),H,I.tok _,?_,q⟩;rw[PySem.W.find_K O hn]
 rfl
inductive Ad4 (K:PySem.W.Frag)(w:World)(x:V)(y:V)(H:Hp)(Q:VK):Prop
 |mk (z:_)(a:_)(u:_)(v:_)(_:x= .ref a)(_:y= .str z)(_:IC K w a)(_:PySem.W.nsIn K a z=u_ (u_ u))(_:ik v u)(_:Q v H)
def AdE:IxR X (Ad4 X.K X.w):=by
 intro value slice ot s σ H x y v u Q I U Z h hs;erw[h,z,a,u',v',rfl,rfl,[_,es,n,O,hk],hn,hr,q];erw[Z,t,rfl];cases U;have hm:=PySem.W.mapOf_K (prog:=X.prog) (w:=X.w) I.kIn O hk;exact HP hm.typeIs slot_dict_getitem.lookup (rE (Tn X.prog X.w z t) hm (PySem.W.find_K O hn) ⟨v',H,I.tok _,hr,q⟩) hs
end
section
variable {X:Cx}{K:o0}
def Kw (h:X.K=K):Yv X (.builtin "len") (λxs H Q=>∃p ys,xs= [.ref p]/\(SqL K H p ys∨SqT K H p ys)/\Q (.int ↑ys) H):=by subst h;exact qL
def ON {es:om Expr}{k:Nat}{t:TGs}{n:Nat}{pos:Pos}(U:X.K=K)(Z:X.calm=v_)(h:PGs X es t)
  (hn:↑(gP es X.env)=n) (O:(gP es X.env).findIdx? (·.1)=U_):PG X (.Tuple es k pos) (Ac0 K n t):=by subst U;exact Du Z h hn O
end
def jP {lo:Int}{n:Nat}{L:o6}{H1:Hp}{te:TE}{tl:St}{Q:VK}(C:Nat->om V->Hp->Prop)(hn:n<=Vl)(h0:C 0 [] (upd H1 L (.lst [])))
  (Z:∀i ys H,i<n->C i ys H->H L=u_ (.lst ys)->↑ys<=i->∀R:VK,(∀y H4,H4 L=u_ (.lst ys)->C (i+1) (ys++ [y]) (upd H4 L (.lst (ys++ [y])))->R y H4)->te (u_ (.int (lo+(i:Int)))::tl) H R)
  (hQ:∀ys H,C n ys H->H L=u_ (.lst ys)->Q (.ref L) H):Es L (Itr lo n) (Y5 0) sO te (U_::tl) H1 Q:=by
 exists n,λi σ ys H=>(∃x,σ=x::tl)/\C i ys H,hn,[[U_:1]:h0],?_,?_
 ·rintro i σ ys H hi ⟨⟨x,rfl⟩,O⟩ U hy;exists hi;rintro x' H' ⟨rfl,rfl⟩;dsimp![Y5,sO,GG];rw[A6 rfl];exact Z i ys H' hi O U hy _ λy H4 e c=>[e:⟨0⟩:c]
 ·rintro σ ys H ⟨_,O⟩ U;exact[ug _:hQ ys H O U]
def Aa5 {K:o0}{a b A:o6}{H1:Hp}{te:TE}{tl:St}{Q:VK}{xs ys:om V}(f:Nat->D)(ha:∀H,ie H1 H->SqT K H a xs)(hb:∀H,ie H1 H->SqL K H b ys)(ac:↑xs=↑ys)(hn:↑xs<=Vl)(hA:H1 A=U_)
  (Z:∀i x y H (R:VK),xs[i]? =u_ x->ys[i]? =u_ y->ie H1 H->(∀v H',ie H H'->Is H' (f i) v->R v H')->te (u_ x::u_ y::tl) H R)
  (hQ:∀H' vs,ie H1 H'->H' A=u_ (.lst vs)->L2.IsL H' ((Vn ↑xs).map f) vs->Q (.ref A) H'):Es A (Itz K a b) (Ac0 K 2 (Si (Y5 0) (Si (Y5 1) AdG))) sO te (U_::U_::tl) H1 Q:=by
 exists ↑xs,λi σ us H=>(∃u v,σ=u::v::tl)/\L2.IsL H ((Vn i).map f) us/\ie H1 H,hn,[[U_:U_:1]:1:qi hA _],?_,?_
 ·rintro i σ us H hi ⟨⟨u,v,rfl⟩,hl,sm⟩ O ad;have hx:xs[i]? =u_ xs[i]:=uf hi;have hy:ys[i]? =u_ (ys[i]'()):=uf _
  exists ⟨xs,ys,_,_,ha H sm,hb H sm,hx,hy⟩,λx H' y=>?_;erw[y,p,x',y',rfl,hp,rfl,e1,e2];have e1:=e1 xs (ha H sm);have e2:=e2 ys (hb H sm);have s2:ie H (upd H p (.tup [x',y'])):=qi hp _;exists p,0,SqT.of qk,1,x',0,y',0,1;dsimp![sO];rw[A6 rfl];refine Z i x' y' _ _ e1 e2 (sm.trans s2) λy4 H4 U aa=>⟨U _ _ (s2 _ _ O),[_:0],?_,λb o e=>?_⟩
  ·have t:Tk H4 (upd H4 A (.lst (us++ [y4]))):=Tk.updL (U _ _ (s2 _ _ O));rw[Uf,uh];exact((hl.mono (s2.trans U).tk).mono t).append (IsL.one (aa.mono t))
  ·rw[qm (qo e hA)];exact U b o (s2 b o (sm b o e))
 ·rintro σ us H ⟨_,hl,sm⟩ O;exact[[xs:ha H sm:1]:hQ H us sm O hl]
def JT (z:Str)(l:om Str):inV (.str z) (l.map V.str)=decide (z∈l):=by
 unfold inV;rw[Hz,vC,Tg,uR];constructor
 ·rintro⟨x,U,e⟩;have O:(x==z)=true:=e;rw[Vc] at O;exact O▸U
 ·intro h;exact⟨z,h,by show(z==z)=v_;exact beq_self_eq_true z⟩
def wG (l:om Str):(l.map V.str).all ZP=true:=by
 rw[Ul,Ur];intro x _
 rfl
inductive Pt where
 |s (z:Str)|n (i:Int)
nonrec def Pt.d:Pt->D
 | .s z=> .str z
 | .n i=> .int i
nonrec def Pt.t:Pt->Str
 | .s z=>z
 | .n i=>Vs i
inductive Kd where
 |box|line|words
 deriving DecidableEq
nonrec def Kd.t:Kd->Str
 | .box=>"box"
 | .line=>"line"
 | .words=>"words"
nonrec def BX:om Str:= ["a","b","c","d","e","f","g","h"]
nonrec def FRM:om (Str×om Kd):= [("text",[.box,.words]),("self",[.box]),("copy",[.box,.box]),("row",[.box]),("put",[.box,.box]),("join",[.box,.box]),("first",[.box,.box]),("rest",[.box,.box]),
 ("size",[.box,.box]),("cut",[.box,.box,.box]),("glue",[.box,.box,.box]),("ask",[.box,.box]),("has",[.box,.box]),("names",[.box,.box]),("go",[.line]),("like",[.box,.box,.line]),
 ("rowed",[.box,.line]),("none",[.box,.line]),("say",[.box]),("fault",[])]
nonrec def Aaz (n m:Nat):Kd->Pt->Prop
 | .box,.s z=>z∈BX
 | .line,.n i=>1<=i/\i<=n
 | .words,.s z=>↑z<=m/\z.cps.toList.all QJ=v_
 |_,_=>False
nonrec def xU (n m:Nat):om Kd->om Pt->Prop
 | [],[]=>True
 |k::ks,p::ps=>Aaz n m k p/\xU n m ks ps
 |_,_=>False
noncomputable abbrev Rw:=Str×om Pt
nonrec def Jj (n m:Nat)(r:Rw):Prop:=∃ks,(r.1,ks)∈FRM/\xU n m ks r.2
nonrec def txs (r:Rw):om Str:=r.1::r.2.map Pt.t
nonrec def Yk (r:Rw):Str:=Vq " " (txs r)
nonrec def rowD (r:Rw):D:= .tup [.str r.1,.tup (r.2.map Pt.d)]
def JZ:∀(x y:Str) (r:om Str),(Vq " " (x::y::r)).cps.toList=x.cps.toList++32::(Vq " " (y::r)).cps.toList:=by
 intro x y r;show((x.cps++(" ":Str).cps)++(Vq " " (y::r)).cps).toList=_;rw[tt,tt,xc];simp
noncomputable abbrev CA (z:Str):Prop:=32∉z.cps.toList
def Kq:∀(l:om Str) (z:Str) (n:Nat),(∀p∈l,CA p)->(n=0∨CA z)->spl (↑l+n) (Vq " " (l++ [z]))=l++ [z]
 | [],z,n,_,hz=>by
  show spl (0+n) z= [z];rw[HC];unfold spl;rcases hz with rfl|hz
  ·rw[iV];show [ofL z.cps.toList]= [z];rw[ye]
  ·rw[wy hz];show [ofL z.cps.toList]= [z];rw[ye]
 |p::l,z,n,hl,hz=>by
  have O:=Kq l z n (λq U=>hl q (uc _ U)) hz;have Z:CA p:=hl p ue;obtain⟨y,r,e⟩:∃y r,l++ [z]=y::r:=by cases l<;>exact[_:0]
  show spl ((↑l+1)+n) (Vq " " (p::(l++ [z])))=p::(l++ [z]);rw[e] at O⊢;unfold spl at O⊢;rw[JZ,show ↑l+1+n=(↑l+n)+1 by omega,BQ Z,ur,O,ye]
def Sf (w:Str)(r:om Str)(h:CA w):hd (Vq " " (w::r))=w:=by
 have O:∀(p q:om Nat),32∉p->xt 32 (p++32::q)=p:=by
  intro p
  induction p with
  |nil=>intro q _;simp[xt]
  |cons a p U=>
   intro q h;have h1:a≠32:=λe=>h (by simp[e])
   show xt 32 (a::(p++32::q))=a::p;rw[xt,A4 h1,U q λz=>h (uc _ z)]
 cases r with
 |nil=>
  show ofL (xt 32 w.cps.toList)=w;rw[zU h,ye]
 |cons y r=>
  unfold hd;rw[JZ,O _ _ h,ye]
def Bx:∀(l:om Str),l≠ []->(Vq " " l).length+1=(l.map (·.length)).sum+↑l
 | [],h=>Aa rfl h
 | [x],_=>by simp[Vq]
 |x::y::r,_=>by
  have O:=Bx (y::r) (by simp)
  have e:(Vq " " (x::y::r)).length=↑x+(1+(Vq " " (y::r)).length):=by
   have:=Ab VC (JZ x y r);rw[uq,uj] at this;simp![v9] at this;show(Vq " " (x::y::r)).cps.size=_;rw[this];show x.cps.size+((Vq " " (y::r)).cps.size+1)=x.cps.size+(1+(Vq " " (y::r)).cps.size);omega
  rw[e,ur,UI,uj];omega
def oH {i:Int}(h1:1<=i)(h2:i<=40):↑(Vs i:Str)<=2/\CA (Vs i:Str)/\(Vs i:Str).cps.toList.all QJ=true:=by
 obtain⟨k,rfl⟩:∃k:Fin 41,i=((k.val:Nat):Int):=⟨[i.toNat:()],by simp;omega⟩
 have O:∀k:Fin 41,↑(Vs ((k.val:Nat):Int):Str)<=2/\decide (CA (Vs ((k.val:Nat):Int):Str))=v_/\(Vs ((k.val:Nat):Int):Str).cps.toList.all QJ=true:=by decide+kernel
 erw[O k,a,b,c];exact[a:um b:c]
def KG {i:Int}(h1:1<=i)(h2:i<=40):PySem.intText? (Vs i:Str)=u_ i:=PySem.W.KIN.num_reads () ()
variable {z:Str}
def Nk (h:z∈BX):↑z=1/\CA z/\z.cps.toList.all QJ=true:=by
 have O:∀z∈BX,↑z=1/\decide (CA z)=v_/\z.cps.toList.all QJ=true:=by decide+kernel
 erw[O z h,a,b,c];exact[a:um b:c]
def CD:∀x∈FRM,decide (CA x.1)=v_/\x.1.cps.toList.all QJ=true:=by decide+kernel
def Sk:∀x∈FRM,(decide (Kd.words∈x.2)=Vh)∨x=(("text":Str),[Kd.box,Kd.words]):=by decide+kernel
def ES:∀x∈FRM,∀y∈FRM,x.1=y.1->x=y:=by decide+kernel
variable {n:Nat}
def n9 {m:Nat}(hn:n<=40){k:Kd}{p:Pt}(h:Aaz n m k p)(O:k≠ .words):CA p.t:=by
 cases k<;>cases p<;>simp![Aaz] at h
 ·exact(Nk h).2.1
 ·exact(oH h.1 ()).2.1
 ·exact Aa rfl O
def Zx {n m:Nat}:∀{ks:om Kd}{ps:om Pt},xU n m ks ps->↑ps=↑ks
 | [],[],_=>rfl
 |_::_,_::_,h=>by rw[uj,uj,Zx h.2]
 | [],_::_,h=>h.elim
 |_::_,[],h=>h.elim
def kW {n m:Nat}(hn:n<=40):∀{ks:om Kd}{ps:om Pt},xU n m ks ps->Kd.words∉ks->∀p∈ps.map Pt.t,CA p
 | [],[],_,_=>λp O=>by simp at O
 |_::_,_::_,h,hk=>λp O=>by
  rw[ur] at O;rcases Ac.mp O with rfl|O
  ·exact n9 hn h.1 λe=>hk (by simp[e])
  ·exact kW hn h.2 (λz=>hk (uc _ z)) p O
 | [],_::_,h,_=>h.elim
 |_::_,[],h,_=>h.elim
variable {r:Rw}
def PR {m:Nat}(h:Jj n m r):hd (Yk r)=r.1:=by
 erw[h,ks,O,U];exact Sf _ _ (um (CD _ O).1)
variable {ks:om Kd}
def LP {m:Nat}(hn:n<=40)(hk:(r.1,ks)∈FRM)(Z:xU n m ks r.2):spl (if Kd.words∈ks then ↑ks else(Yk r).length+1) (Yk r)=txs r:=by
 have hw:CA r.1:=um (CD _ hk).1;by_cases h:Kd.words∈ks
 ·rw[A6 h];rcases Sk _ hk with e|e
  ·simp at e;exact Aa h e
  ·have e1:ks= [.box,.words]:=Ab Prod.snd e;subst e1;erw[r,w,ps]
   match ps,Z with
   | [p,q],Z=>
    have:=Kq [w,p.t] q.t 0 (λz hz=>by
     simp![uC,vk,uP] at hz;rcases hz with rfl|rfl
     ·exact hw
     ·exact n9 hn Z.1 ()) (.inl rfl)
    exact this
 ·rw[A4 h];have hf:∀p∈txs r,CA p:=λp U=>by
   rcases Ac.mp U with rfl|U
   ·exact hw
   ·exact kW hn Z h p U
  rcases pA (txs r) with e|⟨l,z,e⟩
  ·simp[txs] at e
  ·rw[RK] at e;have O:=Bx (txs r) (by simp[txs])
   unfold Yk;rw[e] at hf O⊢;have hl:↑l<=(Vq " " (l++ [z])).length:=by
    rw[uq] at O;simp![uj,HI] at O;omega
   have:=Kq l z ((Vq " " (l++ [z])).length+1-↑l) (λq hq=>hf q (vn _ hq)) (.inr (hf z (by simp)))
   rw[show ↑l+((Vq " " (l++ [z])).length+1-↑l)=(Vq " " (l++ [z])).length+1 by omega] at this
   exact this
abbrev VE:om o7:= [.type "ValueError",.type "Exception",.type "BaseException",.type "object"]
nonrec def CX1 (P:og)(w:oh):CXT:=λouter H s E e s'=>∃(ea C:o6) (a0:o7) (H':Hp) (B:o9),e= .ref ea/\s'.os=s.os/\V_ s'.gens/\0<s'.toks/\Un (frs outer) [] H H' s.heap s'.heap/\HOk P w H' B/\
 RC B outer ea (.ref C) a0 s'.heap/\(∀b o,s.heap.get? b=u_ o->b∉frs outer->∃o',B.get? b=u_ o')/\E (.ref ea) (u_ C) H'
variable {h:o9}{C:o6}
def Abz {bmB:om o7}{newId:String}(X:K.In h)(q:PySem.W.excIn K C bmB newId=v_):
  ∃bm N nm Z bs hdct sn sub ab col dd k0 k1 k2 k3 k5 mN,h.get? C=u_ (excClassObj nm Z C N bs bm hdct sn sub ab col dd k0 k1 k2 k3 k5 newId)/\h.Ns N mN/\mN "__init__"=U_/\OwnTail h bmB bm:=by
 unfold PySem.W.excIn at q;split at q
 ·rename_i dd cd sl ho
  split at q
  ·rename_i C' bm k0 k1 k2 k3 n k5 hm hs
   simp![uu,Vc,RO] at q;erw[q,[[[[rfl,rfl],O],ht],hok],U];erw[cd,nm,bs,aa,ns,Z,hd,sn,sub,ab,col,ac];dsimp only at hm O hok U;subst hm O;obtain⟨l⟩:=sl;simp only at hs;subst hs;exact⟨bm,ns,nm,Z,bs,hd,sn,sub,ab,col,dd,k0,k1,k2,k3,k5,_,X _ _ ho,.of_isNs (PySem.W.isNs_of_in X hok),PySem.W.nsMap_none_of_in X hok U,PySem.W.tail_of_in X ht⟩
  ·cases q
 ·cases q
def oZ {h base B:o9}:∀{l:om Env},h.FunFrames base l->(∀b∈frs l,B.get? b=U_)->h.FunFrames B l
 | [],_,_=>trivial
 |env::r,⟨hk,⟨L,o,hf,hn,ho,hd⟩,hr⟩,hB=>by
  have e:frs (env::r)=L::frs r:=by unfold frs;rw[U0,hf]
  rw[e] at hB;exact[hk:⟨L,o,hf,hB L ue,ho,hd⟩:oZ hr λb O=>hB b (uc _ O)]
nonrec def S7 (E:XK)(C:o6)(ta:TE):TS:=λ_ σ H=>IN ta ND σ H λvs H1=>↑vs=1/\∀e,E (.ref e) (u_ C) H1
def Bd {P:og}{w:oh}{K:o0}{mg:Str->oq o7}{base:o9}{N:om Str}{qual:Str}{scope:VD}{f:o6}{U:o7}{A:oj}{outer:om Env}{s₀:o8}{H₀:Hp}{E:XK}
  {x:Str}{C:o6}{np cpos pos:Pos}{aa:Expr}{ta:TE} (hx:PySem.W.excIn K C VE "ValueError.__new__"=v_) (hg:Gl (cxOf (CX1 P w) P w K mg base N qual scope f U A outer s₀ H₀ E) x) (hm:mg x=u_ (.ref C))
  (ha:PE (cxOf (CX1 P w) P w K mg base N qual scope f U A outer s₀ H₀ E) aa ta) (hd:(x==("__debug__":Str))=Vh)
  (hs:Vm [aa] (Vp qual scope #[0,s₀] f U)= [(Vh,eval aa (Vp qual scope #[0,s₀] f U))]):
  PS (cxOf (CX1 P w) P w K mg base N qual scope f U A outer s₀ H₀ E) (.Raise (u_ (.Call (.Name x np) [aa] [] cpos)) U_ pos) (S7 E C ta):=by
 exists 2,D,I,h;erw[Abz I.mod.kin hx,bm,Nn,nm,q,bs,hdct,sn,sub,ab,col,dd,k0,k1,k2,k3,k5,mN,hC,hN,aq,T];have hT:bm.contains (.type "BaseException")=true:=T.hasType ()
 refine wpAny_Raise_call_subT (C:=C) (nm:=nm) (q:=q) (N:=Nn) (bs:=bs) (bm:=bm) (hdct:=hdct) (sn:=sn) (sub:=sub) (ab:=ab) (col:=col) (dd:=dd) (k0:=k0) (k1:=k1) (k2:=k2) (k3:=k3) (k5:=k5)
  (mN:=mN) F.excBase_ValueError hT (I.ok.hd rfl) (by show(Vu cpos (Vm [aa] (Vp qual scope #[0,s₀] f U))).any (·.1)=Vh;rw[hs];rfl) aq (KA I hg hm [1:?_] hd)
 have au:PA (cxOf (CX1 P w) P w K mg base N qual scope f U A outer s₀ H₀ E) [aa] (IN ta ND):=qf ha qh hs;have hp:=au cpos ot s σ H (λvs H1=>↑vs=1/\∀e,E (.ref e) (u_ C) H1) I h;show Vi _ _ (evalArgs (.ref C) v_ (Vu cpos (Vm [aa] (Vp qual scope #[0,s₀] f U))) []) _ _ s;have aw:Vm [aa] (cxOf (CX1 P w) P w K mg base N qual scope f U A outer s₀ H₀ E).env= [(Vh,eval aa (Vp qual scope #[0,s₀] f U))]:=hs;rw[aw] at hp;rw[hs];refine Uc (vS hp (λvs s₂ h₂=>?_) λ_ _ y=>y);erw[h₂,ws,H2,I2,r2,q2];erw[q2,hl,q2];have bk:=I2.bk;have ax:↑vs<=sizeLine:=by rw[<-↑r2,hl];decide
 exists 1,ax,bk _ _ hC,hN.keeps bk,T.keeps bk,λh' e ad=>?_;show Vi (Vz P w) (A.deeper (Vp qual scope #[0,s₀] f U)) (TX (Vp qual scope #[0,s₀] f U) (.ref e)) (λ_ ag=>CX1 P w outer H₀ s₀ E (.ref e) ag) (λe' ag=>CX1 P w outer H₀ s₀ E e' ag) _;have ay:(A.deeper (Vp qual scope #[0,s₀] f U)).frames=u_ (Vp qual scope #[0,s₀] f U::outer):=I2.ok.frames;have ak:s₂.heap.FunFrames base (Vp qual scope #[0,s₀] f U::outer):=I2.stack;have ah:∀b∈frs (Vp qual scope #[0,s₀] f U::outer),H2 b=none:=I2.stkFree;have al:frs (Vp qual scope #[0,s₀] f U::outer)=#[0,s₀]::frs outer:=rfl;have ap:#[0,s₀]<=#[0,s₀]:=I2.ok.above;have O:Un (frs outer) [] H₀ H2 s₀.heap s₂.heap:=I2.base;refine wpAny_leaves_madeW (base:=TI.gone s₂.heap (frs (Vp qual scope #[0,s₀] f U::outer))) (h:=s₂.heap) (L:=#[0,s₀]) ay rfl (λb o e=>(TI.gone_some e).2) (oZ ak λb Z=>TI.gone_none Z) ad λam t af aB _ aA=>?_;have ae:∀b o,b∉frs (Vp qual scope #[0,s₀] f U::outer)->s₂.heap.get? b=u_ o->am.get? b=u_ o:=λb o Z e=>af.1 b o (by rwa[TI.gone_get Z])
 have slots:∀b o,s₂.heap.get? b=u_ o->(∀vs,o.data≠ .fields vs)->∃sl,am.get? b=u_ {o with slots:=sl}:=λb o e hn=>aA b o (ad.keeps b o e) hn
 have nd:∀b∈frs outer,∀o,s₂.heap.get? b=u_ o->∀vs,o.data≠ .fields vs:=λb Z o e=>by
  obtain⟨_,o',e',hn⟩:=ak.mem (show b∈(Vp qual scope #[0,s₀] f U::outer).filterMap (·.frame) from by rw[show(Vp qual scope #[0,s₀] f U::outer).filterMap (·.frame)=frs (Vp qual scope #[0,s₀] f U::outer) from rfl,al];exact uc _ Z)
  rw[e] at e';cases e';exact hn
 have ac:∀b o,s₀.heap.get? b=u_ o->b∉frs outer->b∉frs (Vp qual scope #[0,s₀] f U::outer):=λb o e Z hm=>by
  rw[al] at hm;rcases Ac.mp hm with rfl|hm
  ·exact Aa (uB e) (vN _)
  ·exact Z hm
 exists e,C,.ref t,H2,0,I2.os,I2.bare,(by first|exact I2.tk|exact Vw I2.tk (UQ _ _)|((try dsimp only);first|assumption|exact Inv.tk (by assumption)|exact Fd _|exact Vw (Inv.tk (by assumption)) (by assumption)|exact Nat.add_pos_left (Inv.tk (by assumption)) _|omega)),⟨?_,?_,O.free,?_,O.tups,O.frzs,O.tbls⟩,?_,af,?_,q2 e
 ·intro b o e1 hn Z hx;exact ae b o (ac b o e1 Z) (O.keep b o e1 hn Z hx)
 ·intro b o e1 hn Z hx;erw[O.slot b o e1 hn Z hx,sl,e2];erw[slots b _ e2 (nd b Z _ e2),ao,e3];exact[ao:e3]
 ·intro b o e1 hx;erw[O.there b o e1 hx,o',e2];by_cases Z:b∈frs outer
  ·erw[slots b _ e2 (nd b Z _ e2),ao,e3];exact[_:e3]
  ·exact[o':ae b o' (ac b o e1 Z) e2]
 ·intro b u Z;refine(I2.hok b u Z).stay (λc v hc q=>?_) (λ_ q=>q) λ_ _ q=>q;rw[TI.gone_get]
  ·exact q
  ·intro hm;have hn:=ah c hm;rcases hc with z|z
   ·rw[z,Z] at hn;cases hn
   ·rw[z] at hn;cases hn
 ·intro b o e1 Z;obtain⟨o',e2⟩:=O.there b o e1 (by simp)
  exact⟨o',by rwa[TI.gone_get (ac b o e1 Z)]⟩
def Fun.okX {P:og}{w:oh}{K:o0}{mg:Str->oq o7}{base:o9}{x qual:Str}{st:Stmt}{f:o6}{fd:Vk}{N ps:om Str}{k:Nat}{sp:Sp}(F:Fun K x qual st f fd)(S:qz N ps (qq st))(len:∀vs H Q E,sp vs H Q E->↑vs=↑ps)
  (O:∀(cdv:o7) (A:oj) (outer:om Env) (s:o8) (H:Hp) (vs:om V) (Q:VK) (E:XK),mG k (A.deeper (Vp qual (qq st) #[0,s] f cdv))->sp vs H Q E->
   ∃t,PSs (cxOf (CX1 P w) P w K mg base N qual (qq st) f cdv A outer s H E) (yY st) t/\t {nx:=λ_ H'=>Q .non H',rt:=Q} (qab N vs) H):FnOk P w K mg base (CX1 P w) (k+1) f fd ps sp:=by
 erw[F.ex,oc,od,kV,doc,pm,an,cdv,ct,osl,rfl,lk,U];exact Abl lk U S len λA outer s H vs Q E hr Z=>O cdv A outer s H vs Q E hr Z
end L2
namespace HT
open PySem PyProof.Rows
section
variable {prog:og}{w:oh}{A:oj}{E:o7->o8->Prop}{s:o8}
def getItem_tuple_all {t sl:o6}{items:Array o7}{vl vu:o7}{lo hi:oq Int}{Q:o7->o8->Prop}(O:GO s.heap t items)(hs:s.heap.IsSliceOf sl vl vu .none)(pl:gU vl lo)(pu:gU vu hi)
  (hw:sIx items.size 0 lo=0/\sIx items.size items.size hi=items.size) (h:Q (.ref t) s):Vi #[w,w] A (VT (.ref t) (.ref sl)) Q E s:=by
 erw[id hs,os,Z,aa,ad];have ac:s.TypeIs (.ref sl) "slice":=[os:Z:aa];unfold VT
 try with_reducible refine VM ?_
 first|refine A8 (uz ?_)|skip
 refine A8 (pD O.typeIs () ?_)
 refine A8 (vE (name:=Gr "__getitem__") O.typeIs vK
  (vH vK O.typeIs RX ?_ (pc _ _)))
 show Vi _ _ (Rr (.ref t)>>=_) _ _ s;refine A8 (pB O ?_);refine A8 (Gi ac ?_);rw[A6 ()]
 refine A8 (jY hs pl pu ?_);have U:((((sIx items.size 0 lo:Nat):Int)==0&&(1:Int)==1&&(sIx items.size items.size hi-sIx items.size 0 lo)==items.size)=v_):=by
  rw[hw.1,hw.2];simp
 show Vi _ _ (if(((sIx items.size 0 lo:Nat):Int)==0&&(1:Int)==1&&(sIx items.size items.size hi-sIx items.size 0 lo)==items.size)=v_ then _ else _) _ _ s
 rw[A6 U];unfold Pj;refine A8 (A8 (Gi O.typeIs (uz ?_)));rw[A6 ()]
 exact A8 (V6 (uz [0:uz h]))
end
end HT
namespace L2
open PySem PySem.Spec PyProof.Rows
section
variable {X:Cx}
inductive Adz (K:PySem.W.Frag)(x:V)(lo:Option Int)(hi:Option Int)(H:Hp)(Q:VK):Prop
 |mk (a:_)(xs:_)(_:x= .ref a)(_:SqT K H a xs)(_:(HT.sIx ↑xs 0 lo=0/\HT.sIx ↑xs ↑xs hi=↑xs->Q (.ref a) H))(_:(¬(HT.sIx ↑xs 0 lo=0/\HT.sIx ↑xs ↑xs hi=↑xs)->∀p,H p=U_->Q (.ref p) (upd H p (.tup (sN xs lo hi)))))
def Di:SlR X (Adz X.K):=by
 exists 2,x,v,vl,vu,lo,hi,sl,Q,I,Z,hs,pl,pu,h;erw[h,a,xs,rfl,hx,q1,q2];by_cases U:HT.sIx ↑xs 0 lo=0/\HT.sIx ↑xs ↑xs hi=↑xs
 ·cases Z;erw[I.tuple hx,its,r,ht,hz];have O:its.toArray.size=↑xs:=by rw[ui];exact r.length.symm
  exists "tuple",_,PyProof.Rows.slot_tuple_getitem.lookup,ht.typeIs;exact HT.getItem_tuple_all ht hs pl pu (by rwa[O]) ⟨.ref a,H,I,1,q1 U⟩
 ·exact Aam ot s σ H (.ref a) v vl vu lo hi sl Q I Z hs pl pu ⟨a,xs,1,hx,U,q2 U⟩
end
nonrec def Ym (n:Nat):Kd->Str->oq Pt
 | .words,z=>u_ (.s z)
 | .box,z=>if z∈BX then u_ (.s z) else U_
 | .line,z=>((Vn n).find? λi:Nat=>decide ((Vs (1+(i:Int)):Str)=z)).map λi:Nat=> .n (1+(i:Int))
nonrec def Yn (n:Nat):om Kd->om Str->oq (om Pt)
 | [],_=>u_ []
 |k::ks,z::zs=>match Ym n k z,Yn n ks zs with
  |some p,u_ ps=>u_ (p::ps)
  |_,_=>U_
 |_::_,[]=>U_
nonrec def xH (w:Str):oq (om Kd):=(FRM.find? λx=>decide (x.1=w)).map (·.2)
nonrec def pcs (ks:om Kd)(z:Str):om Str:=spl (if Kd.words∈ks then ↑ks else ↑z+1) z
nonrec def WJ (n:Nat)(z:Str):oq Rw:=
 if Qz z=v_ then match xH (hd z) with
  |none=>U_
  |some ks=>if(pcs ks z).length=1+↑ks then(Yn n ks ((pcs ks z).drop 1)).map λl=>(hd z,l) else U_
 else U_
variable {ks:om Kd}
def Ze {w:Str}(h:xH w=u_ ks):(w,ks)∈FRM:=by
 unfold xH at h;cases e:FRM.find? λx=>decide (x.1=w) with
 |none=>rw[e] at h;cases h
 |some x=>
  rw[e] at h;have O:=HG e;have hm:=Ub e;cases h;have:x.1=w:=um O;subst this;exact hm
def wQ {w:Str}(h:xH w=U_):∀x∈FRM,x.1≠w:=by
 unfold xH at h;rw[tM,Uz] at h;intro x O e;exact h x O (A9 e)
variable {n:Nat}{z:Str}
def DA {m:Nat}{k:Kd}{p:Pt}(U:↑z<=m)(ha:z.cps.toList.all QJ=v_)(h:Ym n k z=u_ p):Aaz n m k p/\p.t=z:=by
 cases k with
 |words=>cases h;exact[[U:ha]:1]
 |box=>
  simp![Ym] at h;by_cases O:z∈BX
  ·rw[A6 O] at h;cases h;exact[O:1]
  ·rw[A4 O] at h;cases h
 |line=>
  simp![Ym] at h;cases e:(Vn n).find? λi:Nat=>decide ((Vs (1+(i:Int)):Str)=z) with
  |none=>rw[e] at h;cases h
  |some i=>
   rw[e] at h;cases h;have h1:=HG e;have h2:=List.mem_range.mp (Ub e);exact[[():()]:um h1]
def kn {n m:Nat}:∀{ks:om Kd}{zs:om Str}{ps:om Pt},(∀z∈zs,↑z<=m/\z.cps.toList.all QJ=v_)->↑zs=↑ks->Yn n ks zs=u_ ps->xU n m ks ps/\ps.map Pt.t=zs
 | [],[],ps,_,_,h=>by cases h;exact[trivial:1]
 | [],_::_,_,_,hl,_=>by simp at hl
 |_::_,[],_,_,hl,_=>by simp at hl
 |k::ks,z::zs,ps,hz,hl,h=>by
  unfold Yn at h;split at h
  ·rename_i p qs h1 h2
   cases h;erw[DA (hz z ue).1 (hz z ue).2 h1,O,U];obtain⟨b1,b2⟩:=kn (λy Z=>hz y (uc _ Z)) (by simpa using hl) h2
   exact⟨[O:b1],by rw[ur,U,b2]⟩
  ·cases h
nonrec def KK:om (om Nat)->om Nat
 | []=> []
 | [x]=>x
 |x::y::r=>x++32::KK (y::r)
def Cp (x:om Nat){q:om (om Nat)}(O:q≠ []):KK (x::q)=x++32::KK q:=by
 cases q with
 |nil=>exact Aa rfl O
 |cons y r=>rfl
def KN:∀(n:Nat) (L:om Nat),KK (iV 32 n L)=L
 |0,L=>by simp[iV,KK]
 |n+1,[]=>by simp[iV,KK]
 |n+1,a::r=>by
  by_cases h:a=32
  ·have O:=KN n r;erw[Jw 32 n r,p,q,e];rw[iV,A6 h,Cp [] (by rw[e];simp),O,h]
   rfl
  ·have O:=KN (n+1) r;erw[Jw 32 (n+1) r,p,q,e];rw[e] at O;simp![iV,A4 h,e];cases q with
   |nil=>simp![KK] at O⊢;rw[O]
   |cons y t=>
    simp![KK] at O⊢;rw[U4,O]
def Bw:∀l:om (om Nat),(Vq " " (l.map ofL)).cps.toList=KK l
 | []=>rfl
 | [x]=>by show(ofL x).cps.toList=x;unfold ofL;simp
 |x::y::r=>by
  have O:=Bw (y::r);show(Vq " " (ofL x::ofL y::r.map ofL)).cps.toList=_;rw[JZ];have e:(ofL x).cps.toList=x:=by unfold ofL;simp
  rw[e];show x++32::(Vq " " ((y::r).map ofL)).cps.toList=_;rw[O]
  rfl
def IS (n:Nat)(z:Str):Vq " " (spl n z)=z:=by
 unfold spl;have h:=Bw (iV 32 n z.cps.toList);rw[KN] at h;rw[<-ye (Vq " " ((iV 32 n z.cps.toList).map ofL)),h,ye]
def BP:∀(n:Nat) (L:om Nat),∃q,iV 32 (n+1) L=xt 32 L::q
 |n,[]=>⟨[],by simp[iV,xt]⟩
 |n,a::r=>by
  by_cases h:a=32
  ·exact⟨iV 32 n r,by simp[iV,xt,h]⟩
  ·erw[BP n r,q,e];exact⟨q,by simp![iV,A4 h,e,xt]⟩
def IR (n:Nat)(z:Str):∃q,spl (n+1) z=hd z::q:=by
 erw[BP n z.cps.toList,q,e];exact⟨q.map ofL,by unfold spl hd;rw[e];rfl⟩
def Az:∀(n:Nat) (L:om Nat),∀p∈iV 32 n L,↑p<=↑L/\∀c∈p,c∈L
 |0,L=>λp O=>by
  simp[iV] at O;subst O;exact[ug _:λc U=>U]
 |n+1,[]=>λp O=>by
  simp[iV] at O;subst O;exact[ug _:λc U=>U]
 |n+1,a::r=>λp O=>by
  by_cases h:a=32
  ·rw[iV,A6 h] at O;rcases Ac.mp O with rfl|O
   ·exact⟨uG _,λc U=>by simp at U⟩
   ·erw[Az n r p O,h1,h2];exact⟨by simp;omega,λc U=>uc _ (h2 c U)⟩
  ·erw[Jw 32 (n+1) r,p0,q,e];have Z:=Az (n+1) r;rw[e] at Z;simp![iV,A4 h,e] at O;rcases Ac.mp O with rfl|O
   ·erw[Z p0 ue,h1,h2];refine⟨by simp;omega,λc U=>?_⟩
    rcases Ac.mp U with rfl|U
    ·exact ue
    ·exact uc _ (h2 c U)
   ·erw[Z p (uc _ O),h1,h2];exact⟨by simp;omega,λc U=>uc _ (h2 c U)⟩
def Mu {m:Nat}(hz:↑z<=m)(ha:z.cps.toList.all QJ=v_):∀p∈spl n z,↑p<=m/\p.cps.toList.all QJ=true:=by
 intro p O;erw[Ag.mp O,q,U,rfl];erw[Az n z.cps.toList q U,h1,h2];have e:(ofL q).cps.toList=q:=by unfold ofL;simp
 exists ?_,?_
 ·have:↑(ofL q)=↑q:=by unfold ofL VX;simp
  rw[this];have:↑z.cps.toList=↑z:=by simp[VX]
  omega
 ·rw[e,Ur];intro c Z;exact List.all_eq_true.mp ha c (h2 c Z)
variable {r:Rw}
def AV (h:WJ n z=u_ r):Jj n 300 r/\Yk r=z:=by
 unfold WJ at h;split at h
 ·rename_i ht
  have O:=ht;unfold Qz at O;rw[uu,uR] at O;split at h
  ·cases h
  ·rename_i ks hk
   split at h
   ·rename_i hl
    cases e:Yn n ks ((pcs ks z).drop 1) with
    |none=>rw[e] at h;cases h
    |some l=>
     rw[e] at h;cases h;have hm:=Ze hk;have U:∀p∈(pcs ks z).drop 1,↑p<=300/\p.cps.toList.all QJ=true:=λp Z=>Mu O.1 O.2 p (vX Z);obtain⟨a1,a2⟩:=kn U (by rw[vG,hl];omega) e
     exists [ks:hm:a1];have aa:∃j,(if Kd.words∈ks then ↑ks else ↑z+1)=j+1:=by
      split
      ·rename_i hw
       exact⟨↑ks-1,by have:=List.length_pos_iff.mpr (λe=>by rw[e] at hw;simp at hw:ks≠ []);omega⟩
      ·exact[↑z:1]
     erw[aa,j,hj];erw[IR j z,q,hq];have Z:pcs ks z=hd z::q:=by unfold pcs;rwa[hj]
     have hb:Vq " " (pcs ks z)=z:=IS _ z;show Vq " " (hd z::l.map Pt.t)=z;rw[a2];rw[Z] at hb⊢;exact hb
   ·cases h
 ·cases h
section
variable {X:Cx}{ot:om (o6×Obj)}{σ:St}{H:Hp}{s:o8}
def nz:∀{cs:om o6}{its:om o7},iq (cs.map V.ref) its->its=cs.map Vo
 | [],_,h=>by cases h;rfl
 |c::cs,_,h=>by
  cases h with
  |cons O U=>
   rw[nz U,show _=Vo c from O]
   rfl
end
section
variable {X:Cx}
def Y9:∀{ls:om Str}{its:om o7},iq (ls.map V.str) its->HL its ls
 | [],_,h=>by cases h;exact .nil
 |z::ls,_,h=>by
  cases h with
  |cons O U=>
   erw[O,t,e];rw[e];exact .cons z t (Y9 U)
def je:∀{ls:om Str}{its:om o7},HL its ls->iq (ls.map V.str) its
 |_,_,.nil=> .nil
 |_,_,.cons x t h=> .cons [t:1] (je h)
def Z5:∀{xs:om V}{us:om o7},↑xs=↑us->(∀(j:Nat) (x:V) (v:o7),xs[j]? =u_ x->us[j]? =u_ v->ik x v)->iq xs us
 | [],[],_,_=> .nil
 |x::xs,u::us,hl,h=> .cons (h 0 x u rfl rfl) (Z5 (by simpa using hl) λj y v h1 h2=>h (j+1) y v (by simpa using h1) (by simpa using h2))
 | [],_::_,hl,_=>by simp at hl
 |_::_,[],hl,_=>by simp at hl
def sB (hc:X.calm=v_):Yv X (.builtin "sorted") (λxs H Q=>∃(d:o6) (kvs:om (Key×V)) (ls:om Str),xs= [.ref d]/\H d=u_ (.dK kvs)/\kvs.map (·.1)=ls.map Vj/\↑ls<64/\∀(Z:om Str) (q:o6),Z.Perm ls->Gy Z=v_->H q=U_->Q (.ref q) (upd H q (.lst (Z.map V.str)))):=by
 exists 2,xs,us,Q,I,r,h;erw[h,d,kvs,ls,rfl,hd,hk,am,q];erw[jQ r,u,rfl,ru];cases ru;erw[L9 I.hok hd,hz,lo,vs,ae,dd];erw[id dd,o,es,ep,ho];have af:s.heap.DictAt (Qu X.prog X.w) d vs ep:=[o:es:ho];have aa:↑vs=↑ls:=by
  have h1:=Ab VC hk;rw[u9,u9] at h1;rw[<-↑ae,h1]
 refine uX (n:=1) I.tk ?_;refine Ug t_ Ti tE (tY _) ?_;unfold Go.«sorted»;refine A8 (m:=Fa "sorted" 1 1 _) (uz ?_);refine A8 (PySem.W.kdu_collect (A:=X.A.in1) (PySem.W.kdl_dict lo) (I.ok.hd hc) af (by rw[aa,uw];omega) λh' tk U ag O=>?_)
 have hS:HL U.toList ls:=by
  refine Y9 (Z5 (by rw[u9,v9];exact aa.symm.trans O.1.symm) λj x v hx hv=>?_)
  rw[uD] at hx;cases ac:ls[j]? with
  |none=>rw[ac] at hx;cases hx
  |some z=>
   rw[ac] at hx;cases hx;obtain⟨k,y,e1,e2⟩:=O.2 j v (by rwa[<-UF])
   have e3:(kvs.map (·.1))[j]? =u_ k:=by
    rw[ae.keys,uD,e1]
    rfl
   rw[hk,uD,ac] at e3;cases e3;rcases Qx (show Kv (Vj z) v=v_ from e2) with⟨i,t,e4,e5⟩|⟨z',t,e4,e5⟩
   ·cases e4
   ·cases e4;exact[t:e5]
 have ah:↑U.toList=↑ls:=by rw[v9,O.1,aa]
 refine A8 (Va ?_ (by rw[ah,uw];omega))
 have ad:(h'.push (GM "list" U.toList.toArray 0)).get? h'.objs.size=u_ (GM "list" U.toList.toArray 0):=uE _ rfl;refine A8 (VM (vH Te [_:ad:1] TQ (TU Ts ad hS.keysOf (λv₁ v₂ rest e=>TB (by rwa[<-e])) () λak a1 a2=>[0:?_]) (Tz _)))
 refine uz [0:?_];erw[Tb hS a1 a2,Z,b1,b2,b3];erw[TJ (out:=(arrOf ak).map (·.2)) ad,e,he];have al:↑Z=↑ls:=b2.length_eq;intro htk;have I':Inv X ot σ H {s with heap:=h',toks:=tk}:=I.kept ag
 exists .ref h'.objs.size,_,I'.laid (t':=tk) (o:= .lst (Z.map V.str)) (λb u w=>?_) (ug _) ⟨?_,_,e,je b1,he⟩,1,q Z _ b2 b3 (I'.hok.fresh (ug _))
 ·have hb:=uB w;rw[TL (uO hb) (by rw[Tt];exact Tu hb)]
  exact ud _ w
 ·rw[u9,al,uw];omega
nonrec def Itd (d:o6)(o:Obj):It:=
 ⟨λi H=>∃kvs,H d=u_ (.frz o (.dK kvs))/\i<↑kvs,λi H x H'=>H'=H/\∀kvs,H d=u_ (.frz o (.dK kvs))->(kvs.map λp=>kV p.1)[i]? =u_ x,λi H=>∃kvs,H d=u_ (.frz o (.dK kvs))/\↑kvs<=i⟩
variable {w:oh}
def DB {P:og}{es:om GS}{kvs:om (Key×o7)}(h:Pairs (Qu P w) es kvs):↑es=↑kvs:=↑h
variable {H:Hp}{h:o9}{o:Obj}{es:Array GS}
def EQ {P:og}{d:o6}{kvs:om (Key×V)}{ep:Nat}(ok:HOk P w H h)(e:H d=u_ (.frz o (.dK kvs)))(hd:o.data= .dict es ep):
  (d==VF)=Vh/\∃vs,KV kvs vs/\h.DictAt (Qu P w) d vs ep/\↑vs=es.size/\↑kvs<=sizeLine:=by
 obtain⟨U,hz,lo,vs,r,o',aa,ac,O,c1,Z,c3,c4,c5⟩:=(show yy P w H h d (.frz o (.dK kvs)) from ok d _ e)
 rw[U] at O;cases O;rw[hd] at Z;cases Z;exact⟨lo,vs,r,⟨o,es,U,c1,hd,c3,c4,c5⟩,by rw[<-v9];exact(DB c4).symm,hz⟩
def Abd {k:Key}{v:o7}(h:Kv k v=v_):ik (kV k) v:=by
 rcases Qx h with⟨i,t,rfl,rfl⟩|⟨z,t,rfl,rfl⟩
 ·exact[t:1]
 ·exact[t:1]
variable {K:o0}{tg:Expr}
def CJ {P:og}(d it:o6){ep:Nat}(hd:o.data= .dict es ep):Np P w K tg (Itd d o) [it] it (λi h=>h.IsKeyIter it d i es.size ep) where
 mem:=by simp
 obj:=λi h st b O=>by
  have e:b=it:=by simpa using O
  subst e;erw[st,o,e,c,d];exact⟨o,e,λv z=>by rw[d] at z;cases z⟩
 keep:=λi h h' st k=>by
  erw[st,o,e,c,dd];exact⟨o,k it (by simp) o e,c,dd⟩
 item:=by
  intro X hP hw hK hc i ot s σ H E I hf st hg;subst hP hw hK;erw[hg,kvs,hq,hx];erw[EQ I.hok hq hd,lo,vs,r,dat,hl,_];have ac:=↑r;obtain⟨f0,f1,f2,f3,f4,f5⟩:=hf it (by simp)
  obtain⟨⟨k,v⟩,U⟩:∃p,vs[i]? =u_ p:=[_:uf ()]
  refine wpAny_pyNext_dict_item (by rwa[hl]) dat U λad h' hk Z sb=>?_
  have I1:Inv X ot σ H {s with heap:=h'}:=I.turned (t':=s.toks) (λb o O e=>(sb.2 b O).trans e) f0 f1 f3 f4 f5
  erw[id Z,oi,e,c,di];refine⟨ad,1,Cs (s:={s with heap:=h'}) e c di () ⟨kV k,H,I1,Abd hk,[1:λae aa=>?_],by rw[<-hl];exact Z,λb O=>(hf b O).1⟩⟩
  rw[hq] at aa;cases aa;have e3:(kvs.map (·.1))[i]? =u_ k:=by
   rw[r.keys,uD,U]
   rfl
  rw[uD] at e3⊢;cases h4:kvs[i]? with
  |none=>rw[h4] at e3;cases e3
  |some p=>
   rw[h4] at e3;cases e3
   rfl
 done:=by
  intro X hP hw hK hc i ot s σ H E I hf st hg;subst hP hw hK;erw[hg,kvs,hq,hx];erw[EQ I.hok hq hd,lo,vs,r,dat,hl,_];have ac:=↑r;obtain⟨f0,f1,f2,f3,f4,f5⟩:=hf it (by simp)
  exact wpAny_pyNext_dict_end (I.ok.hd hc) (by rwa[hl]) dat (Rp ()) λh' eb=>[1:I.turned (t':=s.toks) (λb o O e=>eb b o O e) f0 f1 f3 f4 f5]
 self:=λ_ _ _ _ _ st h=>wpAny_pyIter_keyiter st h
nonrec def AcY (tl:TE):TI:=λσ H R=>tl σ H λx H1=>∃d o kvs,x= .ref d/\H1 d=u_ (.frz o (.dK kvs))/\R (Itd d o) H1
def wn {tg l:Expr}{tl:TE}(Z:PE X l tl):PI X tg l (AcY tl):=by
 exists 2,R,I,h;refine thn (Z ot s σ H _ I h) λv s1 zq=>?_;erw[zq,x,H1,O,r1,q1];erw[q1,d,o,kvs,rfl,hq,q];cases r1;obtain⟨ho,_,lo,vs,r,o',es,ep,U,c1,c2,_⟩:=(show yy X.prog X.w H1 s1.heap d (.frz o (.dK kvs)) from O.hok d _ hq)
 rw[ho] at U;cases U;erw[EQ O.hok hq c2,lo,vs,r,dat,Z,_];refine wpAny_pyIter_dict lo dat ?_;refine⟨#[0,s1],[#[0,s1]],_,_,H1,1,O.kept (t':=s1.toks) λb o e=>ud _ e,CJ d _ c2,⟨_,uE _ rfl,1,by rw[Z];rfl⟩,λb hb=>?_,q⟩
 have e:b=#[0,s1]:=by simpa using hb
 subst e;exact O.fpOk (ug _) (O.hok.fresh (ug _))
end
end L2
namespace PySem.AwK
open PySem Builtin Builtin.ObjectAttr
def PP:GT (.type "list") "keys"=pure none:=by rw[HK,UG];kernel_rfl
section
variable {prog:og}{w:oh}{A:oj}{E:o7->o8->Prop}{s:o8}
def Ki:isSubtype (.type "AttributeError") (.type "AttributeError")=pure true:=by rw[Ro];kernel_rfl
def Cg {α:Type}{o:o7}{name O:Str}{Q:α->o8->Prop}(hh:A.handled=U_)(hm:↑O<=Vl)
  (hq:∀h' ac e,(∀b ob,s.heap.get? b=u_ ob->h'.get? b=u_ ob)->(∃oe,h'.get? e=u_ oe/\oe.cls= .type "AttributeError")->E (.ref e) {s with heap:=h',toks:=ac}):
  Vi #[w,w] A (pp o name O:Sem α) Q E s:=by
 unfold pp;refine A8 (wpAny_mkStr (A8 ?_) hm);unfold newExc newTuple;refine A8 (vA ?_ (by show(1:Nat)<=Vl;rw[uw];decide))
 refine A8 (m:=Td _ _) (Fq (a:=gS) (by kernel_rfl) ?_)
 obtain⟨h1,aa⟩:∃h1,h1=s.heap.push {cls:= .type "tuple",data:= .seq #[VI O s.toks]}:=⟨0⟩;have k1:∀b ob,s.heap.get? b=u_ ob->h1.get? b=u_ ob:=λb ob e=>by rw[aa];exact ud _ e
 show Vi #[w,w] A (newObj (.type "AttributeError") (.fields #[.ref #[0,s],.none,.none,.none,.bool Vh,.none,gV,gV])) _ E {s with heap:=s.heap.push {cls:= .type "tuple",data:= .seq #[VI O s.toks]},toks:=s.toks+1}
 rw[<-aa];refine vA ?_ (by unfold sizeOk;first|trivial|(rw[uw];simp)|decide)
 obtain⟨h2,U⟩:∃h2,h2=h1.push {cls:= .type "AttributeError",data:= .fields #[.ref #[0,s],.none,.none,.none,.bool Vh,.none,gV,gV]}:=⟨0⟩;have k2:∀b ob,h1.get? b=u_ ob->h2.get? b=u_ ob:=λb ob e=>by rw[U];exact ud _ e
 have Z:h2.get? h1.objs.size=u_ {cls:= .type "AttributeError",data:= .fields #[.ref #[0,s],.none,.none,.none,.bool Vh,.none,gV,gV]}:=by rw[U];exact uE _ rfl
 show Vi #[w,w] A (do let x<-mkText name;noteAttr (.ref h1.objs.size) o x;raiseNew (.ref h1.objs.size)) Q E {s with heap:=h1.push {cls:= .type "AttributeError",data:= .fields #[.ref #[0,s],.none,.none,.none,.bool Vh,.none,gV,gV]},toks:=s.toks+1}
 rw[<-U];have ne:∀b ob,h1.get? b=u_ ob->b≠h1.objs.size:=λb ob e=>uO (uB e);generalize h1.objs.size=e at Z ne⊢;refine A8 (FQ (A8 ?_));have hT:∀g d t os,(⟨h2,g,d,t,os⟩:o8).TypeIs (.ref e) "AttributeError":=λ_ _ _ _=>[_:Z:1];unfold noteAttr lacksNameAndObj;refine A8 (A8 (UP (hT _ _ _ _) Ki ?_));simp![Bool.not_true,UZ,if_false];refine A8 (tq Z ?_);dsimp only;rw[A4 (by simp[gV,G6]),A4 (by simp[gV,doubtfulMember,G6])]
 refine uz ?_;rw[A6 rfl];refine A8 (V6 (A8 (Gi (hT _ _ _ _) ?_)));show Vi #[w,w] A (layMembers e 6 #[VI name (s.toks+1),o]) _ E _;unfold layMembers;refine A8 (tq Z ?_);dsimp only;refine wpAny_update Z ?_;have e3:=HU (pC λvs=>vs.extract 0 6++ #[VI name (s.toks+1),o]) Z rfl;have k3:∀b ob,b≠e->h2.get? b=u_ ob->(h2.update e (pC λvs=>vs.extract 0 6++ #[VI name (s.toks+1),o])).get? b=u_ ob:=λb ob hb q=>(Us _ _ (UC hb)).trans q;exact wpAny_raiseNew_none hh (hq _ _ e (λb ob q=>k3 b ob (ne b ob (k1 b ob q)) (k2 b ob (k1 b ob q))) [_:e3:1])
end
section
variable {prog:og}{w:oh}{A:oj}{E:o7->o8->Prop}{h:o9}{g:Array TR}{d:Drawn}{t:Nat}{os:OsState}{a:o6}{its:Array o7}{n:Nat}{sl:Array (oq o7)}
def LL {tk:Tok}{Q:Fin->o8->Prop}(Z:A.handled=U_)(hx:h.get? a=u_ {cls:= .type "list",dict:=U_,data:= .seq its n,slots:=sl})
  (hq:∀h' O e,(∀b ob,h.get? b=u_ ob->h'.get? b=u_ ob)->(∃U,h'.get? e=u_ U/\U.cls= .type "AttributeError")->E (.ref e) ⟨h',g,d,O,os⟩):
  Vi #[w,w] A (Go.«object.__getattribute__» [[.ref a,.str "keys" tk]:[]]) Q E ⟨h,g,d,t,os⟩:=by
 have hT:(⟨h,g,d,t,os⟩:o8).TypeIs (.ref a) "list":=[_:hx:1];have f4:=PP
 repeat (any_goals (first|assumption|wp_step))
 exact Cg Z (by rw[uw];decide+kernel) hq
def PL {tk:Tok}{R:Ge->o8->Prop}(hh:A.handled=U_)(U:h.get? a=u_ {cls:= .type "list",dict:=U_,data:= .seq its n,slots:=sl})
  (hq:∀h' O e,(∀b ob,h.get? b=u_ ob->h'.get? b=u_ ob)->(∃Z,h'.get? e=u_ Z/\Z.cls= .type "AttributeError")->R (.error (.ref e)) ⟨h',g,d,O,os⟩):
  VR #[w,w] A (.call (.builtin "list.__getattribute__") [[.ref a,.str "keys" tk]:[]]) R ⟨h,g,d,t,os⟩:=
 codeAny_call_builtin F.slot_list_getattribute.plain F.entry_list_ga (F.slot_list_getattribute.check _ _ _ _ _ _ _ _ (show(⟨h,g,d,t,os⟩:o8).TypeIs (.ref a) "list" from[_:U:1]) (F.args_list_getattribute_2 _ _) (LL hh U hq))
def PK {Q:oq o7->o8->Prop}(hh:A.handled=U_)(U:h.get? a=u_ {cls:= .type "list",dict:=U_,data:= .seq its n,slots:=sl})
  (hq:∀h' O,(∀b ob,h.get? b=u_ ob->h'.get? b=u_ ob)->Q U_ ⟨h',g,d,O,os⟩):Vi #[w,w] A (getAttr? (.ref a) "keys") Q E ⟨h,g,d,t,os⟩:=by
 have hT:∀t,(⟨h,g,d,t,os⟩:o8).TypeIs (.ref a) "list":=λt=>[_:U:1];unfold getAttr? getAttrBy?;refine A8 (FQ (A8 (Hx ?_)));unfold getAttrBy;refine VM (A8 (Gi (hT _) ?_));rw[F.slot_list_getattribute.lookup];refine A8 (uz ?_);show Vi #[w,w] A (Ry (.ref a) _ (.type "list") (.builtin "list.__getattribute__") Vh Vh) _ _ _;unfold Ry;refine A8 (m:=hookBefore _) (uz ?_);refine A8 (Hx (VM ?_));show Vi #[w,w] A (rH (.builtin "list.__getattribute__") (.ref a) _) _ _ _;unfold rH;rw[F.slot_list_getattribute.bind];refine A8 (uz (tQ (PL hh U λh' O e k zq=>?_)));erw[zq,oe,e1,e2];have Z:∀t,(⟨h',g,d,t,os⟩:o8).TypeIs (.ref e) "AttributeError":=λt=>[_:e1:e2];show Vi #[w,w] A (RI (.ref a) _ (.type "list") (.ref e) U_ Vh Vh) _ _ ⟨h',g,d,O,os⟩;unfold RI;refine A8 (UP (Z _) Ki ?_);rw[A6 rfl];have lg:hookBehind (.type "list") U_=pure none:=by
  show GT (.type "list") "__getattr__"=pure U_;rw[HK,UG]
  kernel_rfl
 rw[lg];refine A8 (uz ?_);show Vi #[w,w] A (FC (.ref a) _ (.ref e) Vh Vh) _ _ _;unfold FC;refine Fw ?_;refine A8 (UP (Z _) Ki ?_);rw[A6 rfl];exact uz (hq h' O k)
end
def Kc:entryFor table "dict.update.loop"=u_ Go.«dict.update.loop»:=entryFor_of_fast (by kernel_rfl)
def xj:plainId "dict.update.loop"=true:=by decide+kernel
section
variable {prog:og}{w:oh}{A:oj}{E:o7->o8->Prop}{K:Type}[DecidableEq K]{knd:KeyKind prog w K}
nonrec def addAll (cur:om (K×o7)):om (K×o7)->om (K×o7)
 | []=>cur
 |p::r=>addAll (Gq cur p.1 p.2) r
structure AbL (h:o9)(d it:o6)(v:o7)(p:K×o7):Prop where
 at_:∃(t:o6) (o:Obj) (k:o7) (n:Nat),v= .ref t/\t≠d/\t≠it/\h.get? t=u_ o/\o.cls= .type "tuple"/\o.data= .seq #[k,p.2] n/\knd.is p.1 k=v_
def Ci (hh:A.handled=U_){d it l:o6}{items:Array o7}{ps:om (K×o7)}{R:Ge->o8->Prop}(aq:d≠l)(au:it≠l)(aa:d≠it)(hn:items.size=↑ps)(hz:2*↑ps<=Vl)(res:o7):
  ∀(m i:Nat) (s:o8) (O:om (K×o7)),i+m=↑ps->s.heap.IsListIter it l i->s.heap.IsList l items->s.heap.DictOf knd d O->↑O<=i->
  (∀(j:Nat) (v:o7) (p:K×o7),items[j]? =u_ v->ps[j]? =u_ p->AbL (knd:=knd) s.heap d it v p)->
  (∀h' ac,h'.DictOf knd d (addAll O (ps.drop i))->(∀b o,b≠d->b≠it->s.heap.get? b=u_ o->h'.get? b=u_ o)->R (.ok (.ret res)) {s with heap:=h',toks:=ac})->
  VR #[w,w] A (.builtin "dict.update.loop" [[.ref d,.ref it,G6 i,res]:[]]) R s:=by
 intro m
 induction m with
 |zero=>
  intro i s O hm ad hl hd hc hp hR;refine rL Kc ?_;rw[rN xj _];show Vi _ A.in1 (gZ (.ref it)>>=_) _ _ s;refine A8 (RQ (A:=A.in1) hh ad hl (by rw[Array.getElem?_eq_none ()]) λh' eb=>?_)
  have ae:h'.DictOf knd d O:=by
   erw[hd,o,es,ep,ho,r];exact⟨o,es,ep,eb d o aa ho,r⟩
  have:=hR h' s.toks (by rwa[List.drop_eq_nil_of_le ()]) λb o Z U e=>eb b o U e
  show Vi #[w,w] A.in1 (Dict.addKeywords d []>>=λ_=>ret res) _ _ _;refine A8 (m:=Dict.addKeywords d []) (uz ?_);exact uz this
 |succ m ih=>
  intro i s O hm ad hl hd hc hp hR;refine rL Kc ?_;rw[rN xj _];have hi:i<items.size:=by omega
  have ag:i<↑ps:=by omega
  have hx:items[i]? =u_ items[i]:=Array.getElem?_eq_getElem hi;have aw:ps[i]? =u_ ps[i]:=uf ag;erw[(hp i _ _ hx aw).at_,t,o,k,n,ev,aD,ax,ho,ay,aA,hk];rw[ev] at hx;show Vi _ A.in1 (gZ (.ref it)>>=_) _ _ s;refine A8 (RU (A:=A.in1) ad hl hx λh1 ah af=>?_);have ak:h1.get? t=u_ o:=(af.2 t ax).trans ho;have hT:(({s with heap:=h1}:o8)).TypeIs (.ref t) "tuple":=[_:ak:ay]
  have al:h1.DictOf knd d O:=hd.sameBut af aa;dsimp only;refine A8 (VM (A8 (wpAny_tryCatch ?_)));unfold Dict.pairItems;refine A8 (Gi hT ?_);rw[A6 ()]
  refine A8 ?_;unfold tR;refine A8 (tq ak ?_);rw[aA];refine uz (uz ?_);show Vi #[w,w] A.in1 (Gj [k,ps[i].2] (dictSet d k ps[i].2)) _ _ _;refine VM (wpAny_dictSet_pairs hk al (λh2 aB am=>?_) ())
  have ao:h2.IsListIter it l (i+1):=by
   erw[ah,oi,e,c];exact[oi:(am.2 it (UC aa)).trans e:c]
  have keep:∀b ob,b≠d->b≠it->s.heap.get? b=u_ ob->h2.get? b=u_ ob:=λb ob Z U e=>(am.2 b Z).trans ((af.2 b U).trans e);have aC:h2.IsList l items:=by
   erw[hl,ol,e,c];exact[ol:keep l ol (UC aq) (UC au) e:c]
  refine uz [TD xj _:?_];have ap:↑(Gq O ps[i].1 ps[i].2)<=i+1:=by
   unfold Gq;split
   ·rw[u9];omega
   ·rw[uq];show ↑O+1<=i+1;omega
  refine ih (i+1) _ _ () ao aC aB ap (λj v p h1 h2=>?_) λh' ac ae kp=>?_
  ·erw[(hp j v p h1 h2).at_,t',o',k',n',e1,e2,e3,e4,e5];exact⟨⟨t',o',k',n',e1,e2,e3,keep t' o' e2 e3 e4,e5⟩⟩
  ·refine hR h' ac ?_ λb ob Z U e=>kp b ob Z U (keep b ob Z U e);rw[vm ag];exact ae
def dict_pairs (hh:A.handled=U_){s:o8}{l:o6}{items:Array o7}{n:Nat}{sl:Array (oq o7)}{ps:om (K×o7)}{Q:o7->o8->Prop}(hl:s.heap.get? l=u_ {cls:= .type "list",dict:=U_,data:= .seq items n,slots:=sl})(hn:items.size=↑ps)(hz:2*↑ps<=Vl)
  (hp:∀(j:Nat) (v:o7) (p:K×o7),items[j]? =u_ v->ps[j]? =u_ p->∃(t:o6) (o:Obj) (k:o7) (n:Nat),v= .ref t/\s.heap.get? t=u_ o/\o.cls= .type "tuple"/\o.data= .seq #[k,p.2] n/\knd.is p.1 k=v_)
  (hQ:∀h' aa,h'.DictOf knd #[0,s] (addAll [] ps)->(∀b o,s.heap.get? b=u_ o->h'.get? b=u_ o)->Q (.ref #[0,s]) {s with heap:=h',toks:=aa}):
  Vi #[w,w] A (call (.type "dict") [.ref l]) Q E s:=by
 refine FS (Q₁:=λobj s₁=>obj= .ref #[0,s]/\s₁={s with heap:=s.heap.push {cls:= .type "dict",data:= .dict #[]}}) F.kt_called_dict (F.kt_typeCall_dict_1 _) F.entry_dict_init (kt_code_dict_new _ [1:1]) ?_
 rintro obj s₁ ⟨rfl,rfl⟩;have U:(s.heap.push {cls:= .type "dict",data:= .dict #[]}).DictOf knd #[0,s] []:=rX s.heap;exists U.typeIs,F.args_dict_init_2 _ _;unfold Go.«dict.__init__»;refine A8 ?_;unfold pV;refine A8 (wpAny_notOrdered_dict U.typeIs ?_);refine(show Vi _ _ (pure (#[0,s],[Vo l])) _ _ _ from ?_)
 refine uz ?_;refine(show Vi _ _ (FD "dict.__init__" #[0,s] (.ref l) [] .none) _ _ _ from ?_)
 unfold FD;have Z:(s.heap.push {cls:= .type "dict",data:= .dict #[]}).get? l=u_ {cls:= .type "list",dict:=U_,data:= .seq items n,slots:=sl}:=ud _ hl;refine A8 (Gi (T:="list") [_:Z:1] ?_);rw[A6 ()]
 refine A8 (PK (A:=A.in1.in1) hh Z λh2 al k2=>?_);rw[A6 (show(U_:oq o7).isNone=v_ from rfl)]
 have ac:l<#[0,s]:=uB hl;have ae:h2.IsList l items:=⟨_,k2 _ _ Z,1,n,1⟩;refine A8 (V6 (A8 (V5 ae ?_)));have ad:h2.DictOf knd #[0,s] []:=by
  erw[U,o,es,ep,ho,r];exact⟨o,es,ep,k2 _ _ ho,r⟩
 have O:#[0,s]<h2.objs.size:=by
  erw[ad,o,es,ep,ho,r];exact uB ho
 have k1:∀b o,s.heap.get? b=u_ o->h2.get? b=u_ o:=λb o e=>k2 b o (ud _ e);have k3:∀b o,h2.get? b=u_ o->(h2.push {cls:= .type "list_iterator",data:= .fields #[.ref l,.int 0 0]}).get? b=u_ o:=λb o e=>ud _ e;have af:(h2.push {cls:= .type "list_iterator",data:= .fields #[.ref l,.int 0 0]}).IsList l items:=⟨_,k3 _ _ (k2 _ _ Z),1,n,1⟩;have ag:(h2.push {cls:= .type "list_iterator",data:= .fields #[.ref l,.int 0 0]}).DictOf knd #[0,s] []:=ad.push _;refine uz [TD xj _:Ci (A:=A.in1) hh (d:=#[0,s]) (it:=h2.objs.size) (l:=l) (items:=items) (ps:=ps) (vZ ac) (vZ (Hm ac O)) (uO O) hn hz .none ↑ps 0 _ [] () ⟨_,uE _ rfl,1,1⟩ af ag (ug _) (λj v p h1 ah=>?_) λh' aa ak kp=>?_]
 ·erw[hp j v p h1 ah,t,o,k,n',e1,e2,e3,e4,e5];have ht:=uB e2;exact⟨⟨t,o,k,n',e1,uO ht,uO (Hm ht O),k3 _ _ (k1 _ _ e2),e3,e4,e5⟩⟩
 ·exists 1,hQ h' aa ak λb o e=>?_;have hb:=uB e;exact kp b o (uO hb) (uO (Hm hb O)) (k3 _ _ (k1 _ _ e))
end
end PySem.AwK
namespace L2
open PySem PySem.Spec PyProof.Rows
section
variable {X:Cx}
nonrec def iy (ps:om (Str×V)):om (Key×V):=ps.map λp=>(Vj p.1,p.2)
def Z9 (ps:om (Str×V)):(iy ps).map (·.1)=(ps.map (·.1)).map Sum.inr:=by
 unfold iy;rw[uN,uN]
 rfl
def B9 {kvs:om (Key×o7)}{k:Key}{v:o7}(h:k∉kvs.map (·.1)):Gq kvs k v=kvs++ [(k,v)]:=by
 unfold Gq;rw[A4];intro q;erw[List.any_eq_true.mp q,p,O,e];exact h (Ag.mpr [p:O:um e])
def kC:∀{ps O:om (Key×o7)},((O++ps).map (·.1)).Nodup->AwK.addAll O ps=O++ps
 | [],O,_=>(vg O).symm
 |p::r,O,h=>by
  unfold AwK.addAll;have U:p.1∉O.map (·.1):=by
   rw[uh,ur] at h;intro q;exact(List.nodup_append.mp h).2.2 _ q _ ue rfl
  rw[B9 U,kC (by rw[UJ];exact h),UJ]
  rfl
def oz {P:og}{w:oh}{H:Hp}{h:o9}(ok:HOk P w H h):∀{ts:om o6}{ps:om (Str×V)},↑ts=↑ps->(∀(i:Nat) (t:o6) (p:Str×V),ts[i]? =u_ t->ps[i]? =u_ p->H t=u_ (.tup [.str p.1,p.2]))->
  ∃pv:om (Key×o7),KV (iy ps) pv/\∀(j:Nat) (v:o7) (p:Key×o7),(ts.map Vo)[j]? =u_ v->pv[j]? =u_ p->∃(t:o6) (o:Obj) (k:o7) (n:Nat),v= .ref t/\h.get? t=u_ o/\o.cls= .type "tuple"/\o.data= .seq #[k,p.2] n/\(Qu P w).is p.1 k=v_
 | [],[],_,_=>⟨[],.nil,λj v p e=>by simp at e⟩
 |t::ts,p::ps,hl,hp=>by
  obtain⟨pv,h1,h2⟩:=oz ok (ts:=ts) (ps:=ps) (by simpa using hl) λi t' p' O U=>hp (i+1) t' p' (by simpa using O) (by simpa using U)
  obtain⟨_,its,rv,o,Z,hc,n,hd⟩:=(show yy P w H h t (.tup [.str p.1,p.2]) from ok t _ (hp 0 t p rfl rfl))
  cases rv with
  |cons r1 rv=>
  cases rv with
  |cons r2 rv=>
  cases rv with
  |nil=>
  erw[r1,tk,rfl]
  rename_i u
  exists (Vj p.1,u)::pv,.cons [1:r2] h1,λj v q O U=>?_;cases j with
  |zero=>
   simp![ur,List.getElem?_cons_zero,Pd] at O U;subst O U;exact⟨t,o,_,n,1,Z,hc,hd,Wg _ _ _ _⟩
  |succ j=>exact h2 j v q (by simpa using O) (by simpa using U)
 | [],_::_,hl,_=>by simp at hl
 |_::_,[],hl,_=>by simp at hl
nonrec def BY (H:Hp)(l:o6)(ps:om (Str×V)):Prop:=∃ts:om o6,H l=u_ (.lst (ts.map V.ref))/\↑ts=↑ps/\∀(i:Nat) (t:o6) (p:Str×V),ts[i]? =u_ t->ps[i]? =u_ p->H t=u_ (.tup [.str p.1,p.2])
def Fr {ot:om (o6×Obj)}{σ:St}{H:Hp}{s:o8}{l:o6}{ps:om (Str×V)}{Q:o7->o8->Prop}(hc:X.calm=v_)(I:#[I])(hl:BY H l ps)(hn:(ps.map (·.1)).Nodup)(hz:↑ps<=1000)
  (h:∀h' O pv,0<O->(∀b o,s.heap.get? b=u_ o->h'.get? b=u_ o)->KV (iy ps) pv->h'.DictOf (Qu X.prog X.w) #[0,s] pv->Q (.ref #[0,s]) {s with heap:=h',toks:=O}):
  Vi #[X,X] X.A (call (.type "dict") [.ref l]) Q X.xe s:=by
 erw[hl,ts,e1,e2,e3];obtain⟨_,its,n,rv,ho⟩:=(show yy X.prog X.w H s.heap l (.lst (ts.map V.ref)) from I.hok l _ e1)
 cases nz rv;erw[oz I.hok e2 e3,pv,r,hp];have ac:↑pv=↑ps:=by
  rw[<-↑r];unfold iy;rw[u9]
 have Z:(pv.map (·.1)).Nodup:=by
  rw[<-r.keys,Z9];exact pW _ (λa b aa e=>aa (UB e)) hn
 refine uX (n:=1) I.tk ?_;refine AwK.dict_pairs (knd:=Qu X.prog X.w) (I.ok.hd hc) (ps:=pv) ho (by rw[ui,u9];omega) (by rw[uw];omega) (λj v p h1 h2=>hp j v p (by simpa using h1) h2) λh' O U kp=>?_
 rw[kC (by simpa using Z),List.nil_append] at U
 exact λhtk=>h h' O pv htk kp r U
def Zg (Z:X.calm=v_):Yv X (.type "dict") (λxs H Q=>∃(l:o6) (ps:om (Str×V)),xs= [.ref l]/\BY H l ps/\(ps.map (·.1)).Nodup/\↑ps<=1000/\∀q,H q=U_->Q (.ref q) (upd H q (.dK (iy ps)))):=by
 exists 2,xs,us,Q,I,r,h;erw[h,l,ps,rfl,hl,hn,hz,q];erw[jQ r,u,rfl,ru];cases ru;refine Fr Z I hl hn hz λh' aa pv htk kp rel dd=>?_;have O:(#[0,s]==VF)=false:=by
  rw[UT];exact vZ I.big
 have U:↑(iy ps)<=sizeLine:=by unfold iy;rw[u9,uw];omega
 exact⟨.ref #[0,s],_,I.laid kp (ug _) (su U O rel dd),1,q _ I.fresh⟩
def Cu (Z:X.calm=v_):Yv X (.type "dict") (λxs H Q=>∃(l:o6) (ps:om (Str×V)),xs= [.ref l]/\BY H l ps/\(ps.map (·.1)).Nodup/\↑ps<=1000/\∀q o,H q=U_->Q (.ref q) (upd H q (.frz o (.dK (iy ps))))):=by
 exists 2,xs,us,Q,I,r,h;erw[h,l,ps,rfl,hl,hn,hz,q];erw[jQ r,u,rfl,ru];cases ru;refine Fr Z I hl hn hz λh' aa pv htk kp rel dd=>?_;have O:(#[0,s]==VF)=false:=by
  rw[UT];exact vZ I.big
 have U:↑(iy ps)<=sizeLine:=by unfold iy;rw[u9,uw];omega
 erw[id dd,o,es,ep,ho,rr];exact⟨.ref #[0,s],_,I.laid (o:= .frz o (.dK (iy ps))) kp (ug _) [ho:su U O rel dd],1,q _ o I.fresh⟩
end
mutual
noncomputable def puD:D->Bool
 | .str _=>v_
 | .int _=>v_
 | .tup xs=>puL xs
 |_=>Vh
noncomputable def puL:om D->Bool
 | []=>v_
 |x::r=>puD x&&puL r
end
mutual
noncomputable def eqD:D->D->Bool
 | .str a,.str b=>a==b
 | .int a,.int b=>a==b
 | .tup xs,.tup ys=>eqL xs ys
 |_,_=>Vh
noncomputable def eqL:om D->om D->Bool
 | [],[]=>v_
 |x::r,y::q=>eqD x y&&eqL r q
 |_,_=>Vh
end
mutual
theorem EZ:∀{d e:D},puD d=v_->(eqD d e=v_↔d=e)
 | .str a,e,_=>by cases e<;>simp[eqD]
 | .int a,e,_=>by cases e<;>simp[eqD]
 | .tup xs,.tup ys,h=>by
  have:=eqL_iff (xs:=xs) (ys:=ys) (by simpa [puD] using h)
  simp![eqD,this,D.tup.injEq]
 | .tup xs,.non,_=>by simp[eqD]
 | .tup xs,.bl _,_=>by simp[eqD]
 | .tup xs,.int _,_=>by simp[eqD]
 | .tup xs,.str _,_=>by simp[eqD]
 | .tup xs,.lst,_=>by simp[eqD]
 | .tup xs,.dct,_=>by simp[eqD]
 | .non,_,h=>by simp[puD] at h
 | .bl _,_,h=>by simp[puD] at h
 | .lst,_,h=>by simp[puD] at h
 | .dct,_,h=>by simp[puD] at h
theorem eqL_iff:∀{xs ys:om D},puL xs=v_->(eqL xs ys=v_↔xs=ys)
 | [],[],_=>by simp[eqL]
 | [],_::_,_=>by simp[eqL]
 |_::_,[],_=>by simp[eqL]
 |x::r,y::q,h=>by
  have h':puD x=v_/\puL r=true:=by simpa [puL] using h
  simp![eqL,uu,EZ h'.1,eqL_iff h'.2,Uh]
end
mutual
theorem Is.det {H:Hp}:∀{d e:D}{v:V},puD d=v_->puD e=v_->Is H d v->Is H e v->d=e
 | .str a,e,v,_,he,h1,h2=>by
  obtain⟨rfl,_⟩:=(show v= .str a/\_ from h1)
  cases e with
  |str b=>obtain⟨q,_⟩:=(show V.str a=V.str b/\_ from h2);cases q;rfl
  |int b=>cases(show V.str a=V.int b from h2)
  |tup ys=>erw[h2,p,us,q,_];cases q
  |_=>simp[puD] at he
 | .int a,e,v,_,he,h1,h2=>by
  cases(show v= .int a from h1)
  cases e with
  |str b=>obtain⟨q,_⟩:=(show V.int a=V.str b/\_ from h2);cases q
  |int b=>cases(show V.int a=V.int b from h2);rfl
  |tup ys=>erw[h2,p,us,q,_];cases q
  |_=>simp[puD] at he
 | .tup xs,e,v,hd,he,h1,h2=>by
  erw[h1,p,vs,rfl,Z,hl];cases e with
  |str b=>obtain⟨q,_⟩:=(show V.ref p=V.str b/\_ from h2);cases q
  |int b=>cases(show V.ref p=V.int b from h2)
  |tup ys=>
   erw[h2,p',us,q,O,U];cases q;rw[Z] at O;cases O;rw[IsL.det (by simpa [puD] using hd) (by simpa [puD] using he) hl U]
  |_=>simp[puD] at he
 | .non,_,_,hd,_,_,_=>by simp[puD] at hd
 | .bl _,_,_,hd,_,_,_=>by simp[puD] at hd
 | .lst,_,_,hd,_,_,_=>by simp[puD] at hd
 | .dct,_,_,hd,_,_,_=>by simp[puD] at hd
theorem IsL.det {H:Hp}:∀{xs ys:om D}{vs:om V},puL xs=v_->puL ys=v_->IsL H xs vs->IsL H ys vs->xs=ys
 | [],[],_,_,_,_,_=>rfl
 | [],_::_,_,_,_,h1,h2=>by
  cases(show _= [] from h1)
  erw[h2,v,r,q,_];cases q
 |_::_,[],_,_,_,h1,h2=>by
  cases(show _= [] from h2)
  erw[h1,v,r,q,_];cases q
 |x::xs,y::ys,_,hd,he,h1,h2=>by
  erw[h1,v,r,rfl,Z,a2];erw[h2,v',r',q,b1,b2];cases q;have O:puD x=v_/\puL xs=true:=by simpa [puL] using hd
  have U:puD y=v_/\puL ys=true:=by simpa [puL] using he
  rw[Is.det O.1 U.1 Z b1,IsL.det O.2 U.2 a2 b2]
end
def Av:∀(xs ys:om D),eqL xs ys=((Vn (min ↑xs ↑ys)).all (λj=>eqD (xs.getD j .non) (ys.getD j .non))&&↑xs==↑ys)
 | [],[]=>by simp[eqL]
 | [],_::_=>by simp[eqL]
 |_::_,[]=>by simp[eqL]
 |x::r,y::q=>by
  have O:=Av r q;rw[uj,uj,show min (↑r+1) (↑q+1)=min ↑r ↑q+1 by omega,f_,vx,Ul]
  have e:(Vn (min ↑r ↑q)).all ((λj=>eqD ((x::r).getD j .non) ((y::q).getD j .non))∘tu)=(Vn (min ↑r ↑q)).all λj=>eqD (r.getD j .non) (q.getD j .non):=by congr 1
  rw[e];have U:(↑r+1==↑q+1)=(↑r==↑q):=by rw[vC];simp
  rw[U,pd,<-O]
  rfl
section
variable {X:Cx}{ot:om (o6×Obj)}{σ:St}{H:Hp}{s:o8}
variable {z:Str}{e:D}{A:oj}
def L7 (I:#[I]){t:Tok}{u:V}{b:o7}(U:puD e=v_)(h2:Is H e u)(O:ik u b)(Z:A.units<Vr):Vv A s (.str z t) b (eqD (.str z) e):=by
 cases e with
 |str y=>
  obtain⟨rfl,_⟩:=(show u= .str y/\_ from h2)
  erw[O,t2,rfl];exact Ux _ _ _ _
 |int y=>
  cases(show u= .int y from h2)
  erw[O,t2,rfl];exact UX _ _ _ _
 |tup ys=>
  erw[id h2,p,us,rfl,hp,hl];cases O;erw[I.tuple (.inl (.of hp)),its,_,q,_];exact Fo _ _ q Z
 |_=>simp[puD] at U
def BN (I:#[I]){z:Int}{t:Tok}{u:V}{b:o7}(U:puD e=v_)(h2:Is H e u)(O:ik u b)(Z:A.units<Vr):Vv A s (.int z t) b (eqD (.int z) e):=by
 cases e with
 |str y=>
  obtain⟨rfl,_⟩:=(show u= .str y/\_ from h2)
  erw[O,t2,rfl];exact UW _ _ _ _
 |int y=>
  cases(show u= .int y from h2)
  erw[O,t2,rfl];exact V1 _ _ _ _
 |tup ys=>
  erw[id h2,p,us,rfl,hp,hl];cases O;erw[I.tuple (.inl (.of hp)),its,_,q,_];exact pf _ _ q Z
 |_=>simp[puD] at U
def wN:∀{xs:om D}{j:Nat}{x:D},puL xs=v_->xs[j]? =u_ x->puD x=v_
 | [],_,_,_,e=>by simp at e
 |y::r,0,x,h,e=>by
  have h':puD y=v_/\puL r=true:=by simpa [puL] using h
  have:y=x:=by simpa using e
  exact this▸h'.1
 |y::r,j+1,x,h,e=>by
  have h':puD y=v_/\puL r=true:=by simpa [puL] using h
  exact wN h'.2 (by simpa using e)
def L6 (I:#[I]){xs:om D}{e:D}{v u:V}{a b:o7}{A:oj}(hd:puD (.tup xs)=v_)(he:puD e=v_)(h1:Is H (.tup xs) v)(h2:Is H e u)(r1:ik v a)(r2:ik u b)(hu:A.units<Vr)
  (ih:∀x∈xs,∀(e:D) (v u:V) (a b:o7),puD x=v_->puD e=v_->Is H x v->Is H e u->ik v a->ik u b->Vv A.in1 s a b (eqD x e)):Vv A s a b (eqD (.tup xs) e):=by
 erw[id h1,p,vs,rfl,hp,hl];cases r1;erw[I.tuple (.inl (.of hp)),its,rv,q,_];cases e with
 |str y=>
  obtain⟨rfl,_⟩:=(show u= .str y/\_ from h2)
  erw[r2,t2,rfl];exact Ri _ _ q hu
 |int y=>
  cases(show u= .int y from h2)
  erw[r2,t2,rfl];exact Fg _ _ q hu
 |tup ys=>
  by_cases hv:V.ref p=u
  ·have:=Is.det (e:= .tup ys) hd he h1 (hv▸h2);subst hv;cases r2;rw[<-this,(EZ hd).mpr rfl];exact UE _
  ·erw[id h2,p',us,rfl,aa,O];cases r2;erw[I.tuple (.inl (.of aa)),its',U,q',_];have l1:↑its=↑xs:=by rw[<-↑rv,↑hl]
   have l2:↑its'=↑ys:=by rw[<-↑U,↑O]
   have ac:puL xs=true:=by simpa [puD] using hd
   have ad:puL ys=true:=by simpa [puD] using he
   have ae:=UK (e:=λj=>eqD (xs.getD j .non) (ys.getD j .non)) q q' hu λj a1 a2=>by
    have Z:j<↑xs:=by rw[<-l1];simpa using a1
    have j2:j<↑ys:=by rw[<-l2];simpa using a2
    obtain⟨v1,e1,i1⟩:=hl.get (i:=j) (d:=xs[j]) (by simp[Z])
    obtain⟨v2,e2,i2⟩:=O.get (i:=j) (d:=ys[j]) (by simp[j2])
    erw[rv.get e1,b1,f1,g1];erw[U.get e2,b2,f2,g2];have k1:its.toArray[j]=b1:=by
     have:=f1;rw[uf (by rwa[l1])] at this
     simpa using this
    have k2:its'.toArray[j]=b2:=by
     have:=f2;rw[uf (by rwa[l2])] at this
     simpa using this
    have d1:xs.getD j .non=xs[j]:=by simp[VY,Z]
    have d2:ys.getD j .non=ys[j]:=by simp[VY,j2]
    show Vv _ s _ _ (eqD (xs.getD j .non) (ys.getD j .non));rw[k1,k2,d1,d2];exact ih _ (uW Z) _ _ _ _ _ (wN (j:=j) ac (by simp[Z])) (wN (j:=j) ad (by simp[j2])) i1 i2 g1 g2
   have e1:eqD (.tup xs) (.tup ys)=((Vn (min its.toArray.size its'.toArray.size)).all (λj=>eqD (xs.getD j .non) (ys.getD j .non))&&its.toArray.size==its'.toArray.size):=by
    rw[ui,ui,l1,l2,<-Av];simp![eqD]
   rw[e1];exact T9 (λz=>hv (by rw[z])) ae
 |_=>simp[puD] at he
def Nh (I:#[I]):∀(n:Nat) (d e:D) (v u:V) (a b:o7) (A:oj),dp d<=n->puD d=v_->puD e=v_->Is H d v->Is H e u->ik v a->ik u b->A.units+n<Vr->Vv A s a b (eqD d e):=by
 intro n
 induction n with
 |zero=>
  intro d e v u a b A hn hd U h1 h2 Z r2 hu;cases d with
  |int z=>
   cases(show v= .int z from h1)
   erw[Z,t,rfl];exact BN I U h2 r2 hu
  |str z=>simp[dp] at hn
  |tup xs=>simp[dp] at hn
  |_=>simp[puD] at hd
 |succ n ih=>
  intro d e v u a b A hn hd U h1 h2 Z r2 hu;have O:A.units<cLine:=vV (UQ _ _) hu;cases d with
  |int z=>
   cases(show v= .int z from h1)
   erw[Z,t,rfl];exact BN I U h2 r2 O
  |str z=>
   obtain⟨rfl,_⟩:=(show v= .str z/\_ from h1)
   erw[Z,t,rfl];exact L7 I U h2 r2 O
  |tup xs=>
   have hm:dpL xs<=n:=by
    have:dp (.tup xs)=1+dpL xs:=by simp![dp]
    omega
   exact L6 I hd U h1 h2 Z r2 O λx hx e v u a b k1 k2 k3 k4 k5 k6=>ih x e v u a b A.in1 ((zr xs).mp hm x hx) k1 k2 k3 k4 k5 k6 (by rw[uS];omega)
  |_=>simp[puD] at hd
end
section
variable {X:Cx}
nonrec def trD:D->Bool
 | .str _=>v_
 | .tup xs=>puL xs
 |_=>Vh
variable {ot:om (o6×Obj)}{σ:St}{H:Hp}{s:o8}{A:oj}{n:Nat}{its:om o7}
def Lq (I:#[I]){xs ys:om D}{vs us:om V}{its':om o7}(hn:dpL xs<=n)(hd:puL xs=v_)(he:puL ys=v_)(hl:IsL H xs vs)(O:IsL H ys us)(rv:iq vs its)(U:iq us its')(hu:A.units+n<Vr):
  ∀j (a1:j<its.toArray.size) (a2:j<its'.toArray.size),Vv A s its.toArray[j] its'.toArray[j] (eqD (xs.getD j .non) (ys.getD j .non)):=λj a1 a2=>by
 have l1:↑its=↑xs:=by rw[<-↑rv,↑hl]
 have l2:↑its'=↑ys:=by rw[<-↑U,↑O]
 have Z:j<↑xs:=by rw[<-l1];simpa using a1
 have j2:j<↑ys:=by rw[<-l2];simpa using a2
 obtain⟨v1,e1,i1⟩:=hl.get (i:=j) (d:=xs[j]) (by simp[Z])
 obtain⟨v2,e2,i2⟩:=O.get (i:=j) (d:=ys[j]) (by simp[j2])
 erw[rv.get e1,b1,f1,g1];erw[U.get e2,b2,f2,g2];have k1:its.toArray[j]=b1:=by
  have:=f1;rw[uf (by rwa[l1])] at this
  simpa using this
 have k2:its'.toArray[j]=b2:=by
  have:=f2;rw[uf (by rwa[l2])] at this
  simpa using this
 have d1:xs.getD j .non=xs[j]:=by simp[VY,Z]
 have d2:ys.getD j .non=ys[j]:=by simp[VY,j2]
 rw[k1,k2,d1,d2];exact Nh I n _ _ _ _ _ _ A ((zr xs).mp hn _ (uW Z)) (wN (j:=j) hd (by simp[Z])) (wN (j:=j) he (by simp[j2])) i1 i2 g1 g2 hu
variable {e:D}{y:V}{u:o7}
def Ad0 (I:#[I]){d:D}{x:V}{v:o7}(h1:Is H d x)(h2:Is H e y)(p1:trD d=v_)(p2:trD e=v_)(hn:dp d<=60)(rx:ik x v)(ry:ik y u)(hu:A.units+64<Vr):
  FU A s v u (eqD d e)/\Rt A s v u (!eqD d e):=by
 have O:A.units<cLine:=by omega
 cases d with
 |str z=>
  obtain⟨rfl,_⟩:=(show x= .str z/\_ from h1)
  erw[rx,t,rfl];cases e with
  |str w=>
   obtain⟨rfl,_⟩:=(show y= .str w/\_ from h2)
   erw[ry,t2,rfl];exact[pT _ _ _ _:Pk _ _ _ _]
  |tup ys=>
   erw[id h2,p,us,rfl,hp,hl];cases ry;erw[I.tuple (.inl (.of hp)),its,_,q,_];exact[pN _ _ q O:pK _ _ q O]
  |_=>simp[trD] at p2
 |tup xs=>
  erw[id h1,p,vs,rfl,hp,hl];cases rx;erw[I.tuple (.inl (.of hp)),its,rv,q,_];cases e with
  |str w=>
   obtain⟨rfl,_⟩:=(show y= .str w/\_ from h2)
   erw[ry,t2,rfl];exact[pO _ _ q O:Pa _ _ q O]
  |tup ys=>
   erw[id h2,p',us,rfl,aa,U];cases ry;erw[I.tuple (.inl (.of aa)),its',Z,q',_];have hm:dpL xs<=60:=by
    have:dp (.tup xs)=1+dpL xs:=by simp![dp]
    omega
   have l1:↑its=↑xs:=by rw[<-↑rv,↑hl]
   have l2:↑its'=↑ys:=by rw[<-↑Z,↑U]
   have pe:=Lq I (A:=A.in1) hm (by simpa [trD] using p1) (by simpa [trD] using p2) hl U rv Z (by rw[uS];omega)
   have e1:eqD (.tup xs) (.tup ys)=((Vn (min its.toArray.size its'.toArray.size)).all (λj=>eqD (xs.getD j .non) (ys.getD j .non))&&its.toArray.size==its'.toArray.size):=by
    rw[ui,ui,l1,l2,<-Av];simp![eqD]
   rw[e1];exact[UK q q' O pe:FI q q' O pe]
  |_=>simp[trD] at p2
 |_=>simp[trD] at p1
inductive AcB (g:Bool->Bool)(x:V)(y:V)(H:Hp)(Q:VK):Prop
 |mk (d e:D)(_:Is H d x)(_:Is H e y)(_:trD d=v_)(_:trD e=v_)(_:dp d<=60)(_:Q (.bl (g (eqD d e))) H)
def DK (O:X.A.units+64<Vr):OpR X (Vt .Eq) (AcB id):=by
 exists 2,x,y,v,u,Q,I,U,Z,h;erw[h,d,e,h1,h2,p1,p2,hn,q];exact(Ad0 I h1 h2 p1 p2 hn U Z O).1 X.prog X.w X.xe _ ⟨.bl _,H,I,1,q⟩
end
variable {X:Cx}
def JN:Yv X (.builtin "len") (λxs H Q=>(∃z:Str,xs= [.str z]/\↑z<=Vl/\Q (.int ↑z) H)∨∃p ys,xs= [.ref p]/\(SqL X.K H p ys∨SqT X.K H p ys)/\(↑ys<=Vl->Q (.int ↑ys) H)):=by
 exists 2,xs,us,Q,I,r,h;rcases h with⟨z,e,O,q⟩|h
 ·exact KU ot s σ H xs us Q I r ⟨_,↑z,e,[O:1],q⟩
 ·exact Iq ot s σ H xs us Q I r h
nonrec def Ac1 (K:o0)(n:Nat)(t:TGs):TG:=λv σ H Q=>∃a xs,v= .ref a/\SqL K H a xs/\↑xs=n/\t xs σ H Q
def OO {X:Cx}{es:om Expr}{k:Nat}{t:TGs}{n:Nat}{pos:Pos}(Z:X.calm=v_)(h:PGs X es t)
  (hn:↑(gP es X.env)=n) (O:(gP es X.env).findIdx? (·.1)=U_):PG X (.Tuple es k pos) (Ac1 X.K n t):=by
 exists 2,v,u,Q,I,r,U;erw[U,a,xs,e1,hq,hl,U];subst e1;cases r;erw[I.list hq,its,rv,ht,hz];rw[assign_Tuple];refine A8 (HA ?_);unfold unpack;rw[O,hn,<-hl,show ↑xs=its.toArray.size by simp[rv.length]]
 refine A8 (VM (PySem.W.kun_itemsOf (I.ok.hd Z) ht.isList λh' hx=>?_));have I1:Inv X ot σ H {s with heap:=h'}:=I.kept (t':=s.toks) λb o e=>hx b o (uO (uB e)) e
 exact h ot _ σ H xs _ Q I1 (by simpa using rv) U
variable {w:oh}{K:o0}{mg:Str->oq o7}{A:oj}
def AcF {P:og}{base:o9}{N:om Str}{qual:Str}{scope:VD}{f:o6}{cd:o7}{outer:om Env}{s₀:o8}{H₀:Hp}{E:XK}:
  zq (CX1 P w) (cxOf (CX1 P w) P w K mg base N qual scope f cd A outer s₀ H₀ E) E:=by
 intro ot σ H s e s' I h;erw[h,ea,C,a0,H',B,rfl,au,ae,htk,aw,al,am,hold,hE];show Vi (Vz P w) (A.deeper (Vp qual scope #[0,s₀] f cd)) (TX (Vp qual scope #[0,s₀] f cd) (.ref ea)) (λ_ af=>CX1 P w outer H₀ s₀ E (.ref ea) af) (λe' af=>CX1 P w outer H₀ s₀ E e' af) _;have ax:(A.deeper (Vp qual scope #[0,s₀] f cd)).frames=u_ (Vp qual scope #[0,s₀] f cd::outer):=I.ok.frames;have ag:frs (Vp qual scope #[0,s₀] f cd::outer)=#[0,s₀]::frs outer:=rfl;have O:Un (frs outer) [] H₀ H s₀.heap s.heap:=I.base;have U:Un (frs (Vp qual scope #[0,s₀] f cd::outer)) [] H H' s.heap s'.heap:=aw;have aa:RC B (Vp qual scope #[0,s₀] f cd::outer) ea (.ref C) a0 s'.heap:=am;have ac:∀b o,s.heap.get? b=u_ o->b∉frs (Vp qual scope #[0,s₀] f cd::outer)->∃o',B.get? b=u_ o':=hold;have ay:=aa.2.2.1;have ad:∀b o,s₀.heap.get? b=u_ o->b∉frs outer->b∉frs (Vp qual scope #[0,s₀] f cd::outer):=λb o e hb hm=>by
  rw[ag] at hm;rcases Ac.mp hm with rfl|hm
  ·exact Aa (uB e) (vN _)
  ·exact hb hm
 have nd:∀b∈frs outer,∀o,s'.heap.get? b=u_ o->∀vs,o.data≠ .fields vs:=λb hb o e=>by
  obtain⟨_,o',e',hn⟩:=ay.mem (show b∈(Vp qual scope #[0,s₀] f cd::outer).filterMap (·.frame) from by rw[show(Vp qual scope #[0,s₀] f cd::outer).filterMap (·.frame)=frs (Vp qual scope #[0,s₀] f cd::outer) from rfl,ag];exact uc _ hb)
  rw[e] at e';cases e';exact hn
 refine wpAny_leaves_onW (base:=B) (L:=#[0,s₀]) ax rfl aa λaA ah ao=>?_;have aB:∀b o o',B.get? b=u_ o'->s'.heap.get? b=u_ o->aA.get? b=u_ o:=λb o o' Z e2=>by
  have:=aa.1 b o' Z;rw[e2] at this;cases this;exact ah.1 b o Z
 exists ea,C,a0,H',B,1,au.trans I.os,ae,htk,⟨?_,?_,?_,?_,?_,?_,?_⟩,al,ah,?_,hE
 ·intro b o Z hn hb hx;have e2:=O.keep b o Z hn hb hx;have ak:=O.free b o Z hn hx;have ap:=ad b o Z hb;have e3:=U.keep b o e2 ak ap hx;erw[ac b o e2 ap,o',e4];exact aB b o o' e4 e3
 ·intro b o Z hn hb hx;erw[O.slot b o Z hn hb hx,sl,e2];have ak:=O.free b o Z hn hx;obtain⟨aC,e3⟩:=U.slot b _ e2 ak (by rw[ag];exact uc _ hb) hx
  erw[ao b _ e3 (nd b hb _ e3),aq,e4];exact[aq:e4]
 ·intro b o Z hn hx;erw[O.there b o Z hx,o',e2];exact U.free b o' e2 (O.free b o Z hn hx) hx
 ·intro b o Z hx;erw[O.there b o Z hx,o',e2];by_cases hb:b∈frs outer
  ·erw[U.there b o' e2 hx,o2,e3];erw[ao b _ e3 (nd b hb _ e3),aq,e4];exact[_:e4]
  ·erw[ac b o' e2 (ad b o Z hb),o2,e3];exact[o2:ah.1 b o2 e3]
 ·exact λb xs e=>U.tups b xs (O.tups b xs e)
 ·exact λb o u e=>U.frzs b o u (O.frzs b o u e)
 ·intro b ps e;erw[O.tbls b ps e,m1,Z];erw[U.tbls b _ Z,m2,e2];exact⟨m1++m2,by rwa[<-tT]⟩
 ·intro b o Z hb;obtain⟨o',e2⟩:=O.there b o Z (by simp)
  exact ac b o' e2 (ad b o Z hb)
def AaI:zq (CX1 X.prog X.w) X E0:=λ_ _ _ _ _ _ _ h=>by
 erw[h,_,_,_,_,_,_,_,_,_,_,_,_,_,z];exact VN z
end L2
namespace L2
open PySem PyProof.Rows
variable {H:Hp}{p:o6}
def Tk.updD {xs ys:om (Key×V)}(h:H p=u_ (.dK xs)):Tk H (upd H p (.dK ys)):=by
 exists λb zs e=>?_,λb zs e=>[zs:?_],λb zs e=>?_
 ·rw[qm (λz=>by rw[z,h] at e;cases e)];exact e
 ·rw[qm (λz=>by rw[z,h] at e;cases e)];exact e
 ·by_cases z:b=p
  ·exact⟨ys,by rw[z];exact qk⟩
  ·exact⟨zs,by rwa[qm z]⟩
variable {C dx:o6}
def Tk.updI {O dx':o6}{xs ys:om (Str×V)}(h:H p=u_ (.ins C dx xs)):Tk H (upd H p (.ins O dx' ys)):=
 ⟨λb zs e=>by rw[qm (λz=>by rw[z,h] at e;cases e)];exact e,λb zs e=>⟨zs,by rw[qm (λz=>by rw[z,h] at e;cases e)];exact e⟩,λb zs e=>⟨zs,by rw[qm (λz=>by rw[z,h] at e;cases e)];exact e⟩⟩
section
variable {X:Cx}
inductive OA (x:V)(vs:List V)(H:Hp)(Q:VK):Prop
 |mk (z y:Str)(_:x= .str z)(_:vs= [.str y])(_:Q (.bl (VA z y)) H)
def Eh:MtM X "str.startswith" OA:=by
 exists 2,x,vs,v,us,Q,I,O,rv,h;erw[h,z,y,rfl,rfl,q];erw[O,t,rfl];erw[rv.one,u,rfl,t',rfl];exact SC.startswith ⟨.bl (VA z y),H,I,1,q⟩
end
def Eo {d A:o6}{o:Obj}{H1:Hp}{tc:TT}{te:TE}{tl:St}{Q:VK}{kvs:om (Key×V)}{ls:om Str}(p:Str->Bool)(f:Str->V)(hd:H1 d=u_ (.frz o (.dK kvs)))(hk:kvs.map (·.1)=ls.map Vj)(hn:↑ls<=Vl)(hA:H1 A=U_)
  (U:∀z H (R:Bool->Hp->Prop),z∈ls->ie H1 H->R (p z) H->tc (u_ (.str z)::tl) H R)
  (Z:∀z H (R:VK),z∈ls->ie H1 H->R (f z) H->te (u_ (.str z)::tl) H R)
  (hQ:∀H',ie H1 H'->H' A=u_ (.lst ((ls.filter p).map f))->Q (.ref A) H'):Es A (Itd d o) (Y5 0) tc te (U_::tl) H1 Q:=by
 have ac:↑kvs=↑ls:=by
  have:=Ab VC hk
  simpa using this
 exists ↑ls,λi σ ys H=>(∃w,σ=w::tl)/\ys=((ls.take i).filter p).map f/\ie H1 H,hn,[[U_:1]:1:qi hA _],?_,?_
 ·rintro i σ ys H hi ⟨⟨w,rfl⟩,rfl,sm⟩ O hy;exists [kvs:sm _ _ hd:()]
  rintro x H' ⟨rfl,hx⟩;have e:=hx kvs (sm _ _ hd);have e2:(kvs.map λp=>kV p.1)[i]? =u_ (V.str ls[i]):=by
   have:(kvs.map λp=>kV p.1)=(kvs.map (·.1)).map kV:=by rw[uN];rfl
   rw[this,hk,uN,uD,uf hi]
   rfl
  rw[e2] at e;cases e;have et:ls.take (i+1)=ls.take i++ [ls[i]]:=by rw[vb,uf hi];rfl
  have aa:∀ys,ie H1 (upd H' A (.lst ys)):=λys b o' e=>by
   rw[qm (qo e hA)];exact sm _ _ e
  dsimp![Y5,GG];refine U ls[i] H' _ (uW hi) sm ?_;cases hp:p ls[i] with
  |true=>
   refine lj (Z ls[i] H' _ (uW hi) sm ⟨O,⟨0⟩,?_,aa _⟩);rw[et,UA,uh];simp[hp]
  |false=>
   refine iW ⟨O,⟨0⟩,?_,sm⟩;rw[et,UA,uh];simp[hp]
 ·rintro σ ys H ⟨_,rfl,sm⟩ O;rw[vy] at O;exact[[kvs:sm _ _ hd:()]:hQ H sm O]
def PV {K:o0}{a A:o6}{H1:Hp}{te:TE}{tl:St}{Q:VK}{ls:om Str}(C:Nat->om V->Hp->Prop)(ha:H1 a=u_ (.lst (ls.map V.str)))(hn:↑ls<=Vl)(hA:H1 A=U_)(h0:C 0 [] (upd H1 A (.lst [])))
  (aa:∀i z ys H,ls[i]? =u_ z->C i ys H->H A=u_ (.lst ys)->H a=u_ (.lst (ls.map V.str))->↑ys<=i->∀R:VK,(∀y H4,H4 A=u_ (.lst ys)->H4 a=u_ (.lst (ls.map V.str))->C (i+1) (ys++ [y]) (upd H4 A (.lst (ys++ [y])))->R y H4)->te (u_ (.str z)::tl) H R)
  (hQ:∀ys H,C ↑ls ys H->H A=u_ (.lst ys)->Q (.ref A) H):Es A (Itl K a) (Y5 0) sO te (U_::tl) H1 Q:=by
 have U:a≠A:=qo ha hA;refine⟨↑ls,λi σ ys H=>(∃w,σ=w::tl)/\C i ys H/\H a=u_ (.lst (ls.map V.str)),hn,⟨[U_:1],h0,by rwa[qm U]⟩,?_,?_⟩
 ·rintro i σ ys H hi ⟨⟨w,rfl⟩,hc,Z⟩ O hy;have e0:(ls.map V.str)[i]? =u_ (V.str ls[i]):=by rw[uD,uf hi];rfl
  exists ⟨_,_,SqL.of Z,e0⟩;rintro x H' ⟨rfl,hx⟩;have e:=hx _ (SqL.of Z);rw[e0] at e;cases e;dsimp![Y5,sO,GG];rw[A6 rfl];exact aa i ls[i] ys H' (uf hi) hc O Z hy _ λy H4 h4 h5 c4=>⟨h4,⟨0⟩,c4,by rwa[qm U]⟩
 ·rintro σ ys H ⟨_,hc,Z⟩ O;exact⟨⟨_,SqL.of Z,by simp⟩,hQ ys H hc O⟩
section
variable {X:Cx}{K:o0}{o e:Expr}{es:om Expr}{to:TE}{t:TA}{name:Str}{apos cpos:Pos}{T id:String}{r:V->om V->Hp->VK->Prop}
def AaH (hK:X.K=K)(pa:tO T)(slot:Slot T name id)(ac:typeOf (.builtin id)=pure (.type "method_descriptor"))(hm:MtR X id r)(ho:PE X o to)(ha:PA X (e::es) t)
  (U:GJ o name X.env (eval o X.env)=eval o X.env)
  (aa:((Vu cpos (Vm (e::es) X.env)).all (λx=> !x.1)&&(Gx cpos (GE [] X.env)).all (λx=>x.1.isSome)
   &&decide (↑(e::es)+↑([]:om Gh)+(if([]:om Gh).isEmpty then 0 else 1)<30))=v_)
  (Z:(apos.endLine==cpos.line)=v_) (hs:Vm (e::es) X.env=(Vh,eval e X.env)::Vm es X.env) (O:(Vu cpos (Vm es X.env)).any (·.1)=Vh):
  PE X (.Call (.Attribute o name apos) (e::es) [] cpos) (tBM K T r to t):=by
 subst hK;exact Y4 pa slot ac hm ho ha U aa Z hs O
end
def Eb:GT (.type "list_reverseiterator") "__len__"=pure none:=by rw[HK,UG];kernel_rfl
def LX:GT (.type "list_reverseiterator") "__length_hint__"=pure (u_ (.builtin "list_reverseiterator.__length_hint__")):=by rw[HK,UG];kernel_rfl
nonrec def MO:D->Bool
 | .non=>v_
 |d=>trD d
section
variable {X:Cx}
inductive Ad7 (x:V)(y:V)(H:Hp)(Q:VK):Prop
 |mk (d:D)(z:Str)(_:Is H d x)(_:y= .str z)(_:↑z<=1000)(_:MO d=v_)(_:dp d<=60)(_:Q (.bl (eqD d (.str z))) H)
def AaM (hu:X.A.units+64<Vr):OpR X (Vt .Eq) Ad7:=by
 exists 2,x,y,v,u,Q,I,O,U,h;erw[h,d,z,hd,rfl,hz,Z,hp,q];cases d with
 |non=>
  cases(show x= .non from hd)
  exact Qk ot s σ H .non (.str z) v u Q I O U ⟨1,by simpa [eqD] using q⟩
 |str a=>exact DK hu ot s σ H x _ v u Q I O U ⟨_,.str z,hd,⟨1,by rw[uw];omega⟩,Z,1,hp,q⟩
 |tup a=>exact DK hu ot s σ H x _ v u Q I O U ⟨_,.str z,hd,⟨1,by rw[uw];omega⟩,Z,1,hp,q⟩
 |_=>simp[MO,trD] at Z
inductive Ad5 (K:PySem.W.Frag)(x:V)(y:V)(H:Hp)(Q:VK):Prop
 |mk (d:D)(p:Addr)(ls:List Str)(_:Is H d x)(_:y= .ref p)(_:(SqL K H p (ls.map V.str)∨SqT K H p (ls.map V.str)))(_:(∀z∈ls,↑z<=1000))(_:MO d=v_)(_:dp d<=60)(_:Q (.bl (ls.any λz=>eqD d (.str z))) H)
def EV (us:om Str):(us.map V.str).all ZP=true:=by
 rw[Ul,Ur];exact λ_ _=>rfl
def MM (hu:X.A.units+64<Vr):OpR X (Vt .In) (Ad5 X.K):=by
 exists 2,x,y,v,u,Q,I,rx,ry,h;erw[h,d,p,ls,hd,rfl,O,ac,hk,hp,q];cases d with
 |non=>
  cases(show x= .non from hd)
  refine QU ot s σ H .non _ v u Q I rx ry ⟨p,0,O,1,EV _,?_⟩;have e:inV .non (ls.map V.str)=ls.any λz=>eqD .non (.str z):=by
   unfold inV;rw[Hz]
   rfl
  rwa[A4 ua,e]
 |str a=>
  erw[hd,rfl,_];refine QU ot s σ H _ _ v u Q I rx ry ⟨p,0,O,1,EV _,?_⟩;have e:inV (.str a) (ls.map V.str)=ls.any λz=>eqD (.str a) (.str z):=by
   unfold inV;rw[Hz];refine Ab (λf=>ls.any f) (funext λz=>?_);show(z==a)=(a==z);rw[vC,Vc,Vc];exact eq_comm
  rwa[A4 ua,e]
 |tup xs=>
  have e:(ls.any λz=>eqD (.tup xs) (.str z))=false:=by
   rw[Fb];intro z _;simp[eqD]
  rw[e] at q;erw[hd,pa,vs,rfl,ha,hl];cases rx;cases ry;erw[I.tuple (.inl (.of ha)),ad,ae,af,_];have ag:X.A.units<cLine:=by omega
  have U:∀{its:om o7},iq (ls.map V.str) its->∀w∈its,∀A:oj,A.units+1<Vr->Vv A s w (.ref pa) false:=by
   intro its r w Z A hA;erw[List.mem_iff_getElem?.mp Z,j,hj];have aa:j<↑ls:=by
    have:=(Ai.mp hj).1;have:=↑r;rw[u9] at this;omega
   obtain⟨u',e1,e2⟩:=r.get (i:=j) (x:=V.str ls[j]) (by rw[uD,uf aa];rfl)
   rw[hj] at e1;cases e1;have:=Nh I 1 (.str ls[j]) (.tup xs) (.str ls[j]) (.ref pa) _ (.ref pa) A (by simp[dp]) rfl (by simpa [MO,trD,puD] using hk) ⟨1,by have:=ac _ (uW aa);rw[uw];omega⟩ ⟨pa,vs,1,ha,hl⟩ e2 rfl ()
   simpa [eqD] using this
  rcases O with O|O
  ·erw[I.list O,its,r,pl,hz];refine rA (λ_=>Vh) pl.isList (λw Z=>U r w (by simpa using Z) _ ?_) ⟨.bl _,H,I,1,?_⟩
   ·first|omega|(rw[uS];omega)|(rw[uS,uS];omega)|(rw[uS,uS,uS];omega)
   ·rw[show its.toArray.any (λ_=>Vh)=Vh by rw[Rv];exact List.any_eq_false.mpr λ_ _=>ua]
    exact q
  ·erw[I.tuple O,its,r,pl,hz];refine Ff (λ_=>Vh) pl (λw Z=>U r w (by simpa using Z) _ ?_) ⟨.bl _,H,I,1,?_⟩
   ·first|omega|(rw[uS];omega)|(rw[uS,uS];omega)|(rw[uS,uS,uS];omega)
   ·rw[show its.toArray.any (λ_=>Vh)=Vh by rw[Rv];exact List.any_eq_false.mpr λ_ _=>ua]
    exact q
 |_=>simp[MO,trD] at hk
end
end L2
namespace L2
open PySem PySem.Spec PyProof.Rows Builtin Builtin.Str
nonrec def Aae (P:og)(w:oh)(K:o0)(mg:Str->oq o7)(base:o9)(k:Nat)(tf:TE)(t:TA):TE:=λσ H Q=>tf σ H λv H1=>∃(f:o6) (fd:Vk) (ps:om Str) (sp:Sp),v= .ref f/\
 FnOk P w K mg base CX0 k f fd ps sp/\zG K fd ps []/\PySem.W.keepIn K (.ref f)=v_/\t σ H1 λvs H2=>sp vs H2 Q E0
def Lo {X:Cx}{o i e:Expr}{es:om Expr}{O pos:Pos}{Z:TE}{t:TA}{k:Nat}{P:og}{w:oh}{K:o0}{mg:Str->oq o7}{base:o9}(e1:X.prog=P/\X.w=w/\X.K=K/\X.mg=mg/\X.base=base)(hf:PE X (.Subscript o i O) Z)(hr:mG k X.A)(ha:PA X (e::es) t)
  (he:Vm (e::es) X.env=(Vh,eval e X.env)::Vm es X.env) (U:(Vu pos (Vm es X.env)).any (·.1)=Vh):
  PE X (.Call (.Subscript o i O) (e::es) [] pos) (Aae P w K mg base k Z t):=by
 erw[e1,rfl,rfl,rfl,rfl,rfl];exists 2,Q,I,h;show Vi _ _ (do TW pos (<-eval (.Subscript o i O) X.env) [] (Vu pos (Vm (e::es) X.env)) (Gx pos (GE [] X.env))) _ _ s
 refine A8 (thn (hf ot s σ H _ I h) λu s1 zq=>?_);erw[zq,v,H1,I1,rv,f,fd,ps,sp,ev,F,hb,hk,q];subst ev;obtain rfl:u=Vo f:=rv;refine UY (h₀:=X.base) I1.ok.mod.kin hk (thn (ha pos ot s1 σ H1 _ I1 q) λus s2 ⟨vs,H2,I2,r,q2⟩=>[I2.kIn:?_]) he U;exact AT (ds:= []) (dvs:= []) F hr hb .nil qH I2 r (by rw[vg];exact q2)
def KW (z y:Str)(hi O:Nat):∀(l:om Nat) (st:Array Nat×Nat),(gQ l st (Gm z y hi O)).run.fst.size<=st.fst.size+↑l
 | [],st=>ug _
 |a::l,st=>by
  rw[UD];unfold Gm;split
  ·refine uL (KW z y hi O l _) ?_;simp![Rx,uj];omega
  ·refine uL (KW z y hi O l _) ?_;simp![uj];omega
def PB (z y:Str)(n:Nat):↑(occurrences z y 0 ↑z n)<=↑z+1:=by
 rw[FK];have:=KW z y ↑z n (gW 0 (↑z+1-0)) (#[],0);rw[v9];refine uL this ?_;simp
nonrec def spG (z y:Str):om Str:=if(decide (↑z<↑y)||decide (VH z<VH y))=v_ then [z] else if(occurrences z y 0 ↑z (↑z+1)).isEmpty=v_ then [z] else partsBetween z (occurrences z y 0 ↑z (↑z+1)) ↑y
def Os (z y:Str):↑(spG z y)<=↑z+2:=by
 unfold spG;have h:=PB z y (↑z+1);split
 ·simp
 ·split
  ·simp
  ·simp![partsBetween,u9,List.length_zip,uj,uq,HI];omega
variable {z:Str}
def Oq {y p:Str}(h:p∈spG z y):↑p<=↑z:=by
 unfold spG at h;split at h
 ·rw[vo] at h;subst h;exact ug _
 ·split at h
  ·rw[vo] at h;subst h;exact ug _
  ·simp![partsBetween,Ag] at h;erw[h,q,_,e];rw[<-e];exact strSub_length_le _ _ _
section
variable {X:Cx}
inductive OC (x:V)(vs:List V)(H:Hp)(Q:VK):Prop
 |mk (z:_)(y:_)(_:x= .str z)(_:vs= [.str y])(_:0<↑y)(_:↑z<=1000)(_:∀p,H p=U_->Q (.ref p) (upd H p (.lst ((spG z y).map V.str))))
def Ej:MtM X "str.split" OC:=by
 exists 2,x,vs,v,us,Q,I,rx,rv,h;erw[h,z,y,rfl,rfl,hy,hz,q];erw[rx,t,rfl];erw[rv.one,u,rfl,t',rfl];have Z:↑z<=sizeLine:=by rw[uw];omega
 have O:(↑y==0)=false:=by simp;omega
 have one:spG z y= [z]->∀(T:Nat),0<T->EP X ot σ Q (.ref #[0,s]) {s with heap:=s.heap.push {cls:= .type "list",data:= .seq [VI z t].toArray},toks:=T}:=λe T hT=>by
  rw[e] at q;exact xk (ys:= [V.str z]) I (.cons (show ik (V.str z) _ from[t:1]) .nil) (by show 1<=Vl;decide) q
 cases h1:(decide (↑z<↑y)||decide (VH z<VH y)) with
 |true=>
  refine vL vI (vU _ _ _) vB (U7 _ _) (rQ z y t t' h1) ?_;exact one (by unfold spG;rw[A6 h1]) s.toks I.tk
 |false=>
  cases U:(occurrences z y 0 ↑z (↑z+1)).isEmpty with
  |true=>
   refine vL vI (vU _ _ _) vB (U7 _ _) (Fi z y t t' h1 O U) ?_;exact one (by unfold spG;rw[A4 (by rw[h1];decide),A6 U]) s.toks I.tk
  |false=>
   have hl:=Os z y;have e:spG z y=partsBetween z (occurrences z y 0 ↑z (↑z+1)) ↑y:=by unfold spG;rw[A4 (by rw[h1];decide),A4 (by rw[U];decide)]
   rw[e] at q hl;refine vL vI (vU _ _ _) vB (U7 _ _) (FV z y t t' h1 O U Z (by rw[uw];omega)) ?_
   exact xk I (XR _ _) (by rw[u9,uw];omega) q
inductive Aaw (K:PySem.W.Frag)(x:V)(vs:List V)(H:Hp)(Q:VK):Prop
 |mk (sep:Str)(p:Addr)(l:List Str)(_:x= .str sep)(_:vs= [.ref p])(_:SqT K H p (l.map V.str))(_:(l.map (·.length)).sum+↑l*↑sep<=1000000)(_:Q (.str (Vq sep l)) H)
def LM:MtM X "str.join" (Aaw X.K):=by
 exists 2,x,vs,v,us,Q,I,rx,rv,h;erw[h,sep,p,l,rfl,rfl,hp,hz,q];erw[rx,t,rfl];erw[rv.one,u,rfl,ru];cases ru;erw[I.tuple hp,its,r,pl,hl];erw[X6 r,ps,rfl,Z];have U:tooLong ((ps.map (·.1)).toArray.foldl (·+ ·.length+↑sep) 0)=false:=by
  rw[Z];have:=pE sep l;rw[this];unfold tooLong;refine ub ?_;rw[uw];omega
 refine vL F.slot_str_join (vU _ _ _) F.entry_str_join (F.args_str_join_2 _ _) (meets_str_join_tuple sep t p ps U) ⟨(let⟨o,h1,h2,n,h3⟩:=pl;⟨o,n,h1,h2,h3⟩),?_⟩;have O:(glued sep (ps.map (·.1))).length<=sizeLine:=Rc U
 match ps,Z,O with
 | [],Z,O=>
  subst Z;exact⟨O,.str _,H,I.tok _,⟨0⟩,q⟩
 | [a],Z,_=>
  subst Z;exact⟨.str _,H,I,[a.2:1],q⟩
 |a::b::r,Z,O=>
  subst Z;exists O,.str _,H,I.tok _,⟨0⟩;rw[p9];exact q
def Aan:SlR X (λx lo hi H Q=>Ady x lo hi H Q∨Adz X.K x lo hi H Q):=My.or Di
end
end L2
namespace L2
open PySem PySem.Spec PyProof.Rows
open Builtin.Int (intBits)
section
variable {X:Cx}
inductive Ad6 (K:PySem.W.Frag)(w:World)(x:V)(y:V)(H:Hp)(Q:VK):Prop
 |mk (z:_)(a:_)(r:_)(_:x= .str z)(_:y= .ref a)(_:IC K w a)(_:PySem.W.nsIn K a z=u_ r)(_:Q (.bl r.isSome) H)
def AaL:OpR X (Vt .In) (Ad6 X.K X.w):=by
 exists 2,x,y,v,u,Q,I,U,Z,h;erw[h,z,a,r,rfl,rfl,[hs,es,n,O,hk],hn,q];erw[U,t,rfl];cases Z;have hm:=PySem.W.mapOf_K (prog:=X.prog) (w:=X.w) I.kIn O hk;refine pq (Tn X.prog X.w z t) hs hm ⟨.bl r.isSome,H,I.tok _,?_,q⟩;rw[PySem.W.find_K O hn]
 rfl
end
end L2
namespace L2
open PySem PySem.Spec PyProof.Rows
mutual
noncomputable def nD:D->Bool
 | .non=>v_
 | .str _=>v_
 | .int _=>v_
 | .tup xs=>nL xs
 |_=>Vh
noncomputable def nL:om D->Bool
 | []=>v_
 |x::r=>nD x&&nL r
end
def Bq:∀{xs:om D}{j:Nat}{x:D},nL xs=v_->xs[j]? =u_ x->nD x=v_
 | [],_,_,_,e=>by simp at e
 |y::r,0,x,h,e=>by
  have h':nD y=v_/\nL r=true:=by simpa [nL] using h
  have:y=x:=by simpa using e
  exact this▸h'.1
 |y::r,j+1,x,h,e=>by
  have h':nD y=v_/\nL r=true:=by simpa [nL] using h
  exact Bq h'.2 (by simpa using e)
section
variable {X:Cx}{ot:om (o6×Obj)}{σ:St}{H:Hp}{s:o8}
def Dx {xs:om D}{vs us:om V}{its its':om o7}{A:oj}(hd:nL xs=v_)(hl:IsL H xs vs)(U:IsL H xs us)(rv:iq vs its)(Z:iq us its')
  (ih:∀x∈xs,∀(v u:V) (a b:o7),nD x=v_->Is H x v->Is H x u->ik v a->ik u b->Vv A s a b v_):
  ∀j (a1:j<its.toArray.size) (a2:j<its'.toArray.size),Vv A s its.toArray[j] its'.toArray[j] true:=λj a1 a2=>by
 have l1:↑its=↑xs:=by rw[<-↑rv,↑hl]
 have l2:↑its'=↑xs:=by rw[<-↑Z,↑U]
 have O:j<↑xs:=by rw[<-l1];simpa using a1
 obtain⟨v1,e1,i1⟩:=hl.get (i:=j) (d:=xs[j]) (by simp[O])
 obtain⟨v2,e2,i2⟩:=U.get (i:=j) (d:=xs[j]) (by simp[O])
 erw[rv.get e1,b1,f1,g1];erw[Z.get e2,b2,f2,g2];have k1:its.toArray[j]=b1:=by
  have:=f1;rw[uf (by rwa[l1])] at this
  simpa using this
 have k2:its'.toArray[j]=b2:=by
  have:=f2;rw[uf (by rwa[l2])] at this
  simpa using this
 rw[k1,k2];exact ih _ (uW O) _ _ _ _ (Bq (j:=j) hd (by simp[O])) i1 i2 g1 g2
def BU (n:Nat):(Vn n).all (λ_=>v_)=true:=by simp
def Abo (I:#[I]):∀(n:Nat) (d:D) (v u:V) (a b:o7) (A:oj),dp d<=n->nD d=v_->Is H d v->Is H d u->ik v a->ik u b->A.units+n<Vr->Vv A s a b true:=by
 intro n
 induction n with
 |zero=>
  intro d v u a b A hn hd h1 h2 O U hu;cases d with
  |int z=>
   cases(show v= .int z from h1)
   cases(show u= .int z from h2)
   erw[O,t,rfl];erw[U,t',rfl];have:=V1 (A:=A) (s:=s) z t z t'
   simpa using this
  |non=>
   cases(show v= .non from h1)
   cases(show u= .non from h2)
   cases O;cases U;exact UE _
  |str z=>simp[dp] at hn
  |tup xs=>simp[dp] at hn
  |_=>simp[nD] at hd
 |succ n ih=>
  intro d v u a b A hn hd h1 h2 O U hu;have ad:A.units<cLine:=vV (UQ _ _) hu;cases d with
  |int z=>exact ih (.int z) v u a b A (uG _) hd h1 h2 O U ()
  |non=>exact ih .non v u a b A (uG _) hd h1 h2 O U ()
  |str z=>
   obtain⟨rfl,_⟩:=(show v= .str z/\_ from h1)
   obtain⟨rfl,_⟩:=(show u= .str z/\_ from h2)
   erw[O,t,rfl];erw[U,t',rfl];have:=Ux (A:=A) (s:=s) z t z t'
   simpa using this
  |tup xs=>
   have hm:dpL xs<=n:=by
    have:dp (.tup xs)=1+dpL xs:=by simp![dp]
    omega
   erw[id h1,p,vs,rfl,hp,hl];erw[id h2,p',us,rfl,ae,Z];cases O;cases U;by_cases hv:p=p'
   ·subst hv;exact UE _
   ·erw[I.tuple (.inl (.of hp)),its,rv,q,_];erw[I.tuple (.inl (.of ae)),its',aa,q',_];have l1:↑its=↑xs:=by rw[<-↑rv,↑hl]
    have l2:↑its'=↑xs:=by rw[<-↑aa,↑Z]
    have ac:=UK (e:=λ_=>v_) q q' ad (Dx (by simpa [nD] using hd) hl Z rv aa λx hx v u a b k1 k3 k4 k5 k6=>ih x v u a b A.in1 ((zr xs).mp hm x hx) k1 k3 k4 k5 k6 (by rw[uS];omega))
    rw[BU,ui,ui,l1,l2] at ac;exact T9 hv (by simpa using ac)
  |_=>simp[nD] at hd
def OQ (hu:X.A.units+64<Vr):OpR X (Vt .NotEq) (λx y H Q=>∃(l m:o6) (vs us:om V) (ds:om D),x= .ref l/\y= .ref m/\SqL X.K H l vs/\SqL X.K H m us/\IsL H ds vs/\IsL H ds us/\nL ds=v_/\dpL ds<=60/\Q (.bl Vh) H):=by
 exists 2,x,y,v,u,Q,I,rx,ry,h;erw[h,l,m,vs,us,ds,rfl,rfl,hl,hm,il,im,hn,hd,q];cases rx;cases ry;erw[I.list hl,its,rv,pl,_];erw[I.list hm,its',O,U,_];have l1:↑its=↑ds:=by rw[<-↑rv,↑il]
 have l2:↑its'=↑ds:=by rw[<-↑O,↑im]
 have Z:=Dx hn il im rv O λx hx v u a b k1 k3 k4 k5 k6=>Abo I 60 x v u a b X.A.in1 ((zr ds).mp hd x hx) k1 k3 k4 k5 k6 (by rw[uS];omega)
 refine Pf (e:=λ_=>v_) pl.isList U.isList (by rw[ui,ui,l1,l2]) () Z X.prog X.w X.xe _ ⟨.bl Vh,H,I,?_,q⟩
 rw[BU]
 rfl
mutual
noncomputable def eqN:D->D->Bool
 | .non,.non=>v_
 | .str a,.str b=>a==b
 | .int a,.int b=>a==b
 | .tup xs,.tup ys=>eqNL xs ys
 |_,_=>Vh
noncomputable def eqNL:om D->om D->Bool
 | [],[]=>v_
 |x::r,y::q=>eqN x y&&eqNL r q
 |_,_=>Vh
end
mutual
theorem EY:∀{d e:D},nD d=v_->(eqN d e=v_↔d=e)
 | .non,e,_=>by cases e<;>simp[eqN]
 | .str a,e,_=>by cases e<;>simp[eqN]
 | .int a,e,_=>by cases e<;>simp[eqN]
 | .tup xs,.tup ys,h=>by
  have:=eqNL_iff (xs:=xs) (ys:=ys) (by simpa [nD] using h)
  simp![eqN,this,D.tup.injEq]
 | .tup xs,.non,_=>by simp[eqN]
 | .tup xs,.bl _,_=>by simp[eqN]
 | .tup xs,.int _,_=>by simp[eqN]
 | .tup xs,.str _,_=>by simp[eqN]
 | .tup xs,.lst,_=>by simp[eqN]
 | .tup xs,.dct,_=>by simp[eqN]
 | .bl _,_,h=>by simp[nD] at h
 | .lst,_,h=>by simp[nD] at h
 | .dct,_,h=>by simp[nD] at h
theorem eqNL_iff:∀{xs ys:om D},nL xs=v_->(eqNL xs ys=v_↔xs=ys)
 | [],[],_=>by simp[eqNL]
 | [],_::_,_=>by simp[eqNL]
 |_::_,[],_=>by simp[eqNL]
 |x::r,y::q,h=>by
  have h':nD x=v_/\nL r=true:=by simpa [nL] using h
  simp![eqNL,uu,EY h'.1,eqNL_iff h'.2,Uh]
end
mutual
theorem Is.detN {H:Hp}:∀{d e:D}{v:V},nD d=v_->nD e=v_->Is H d v->Is H e v->d=e
 | .non,e,v,_,he,h1,h2=>by
  cases(show v= .non from h1)
  cases e with
  |non=>rfl
  |str b=>obtain⟨q,_⟩:=(show V.non=V.str b/\_ from h2);cases q
  |int b=>cases(show V.non=V.int b from h2)
  |tup ys=>erw[h2,p,us,q,_];cases q
  |_=>simp[nD] at he
 | .str a,e,v,_,he,h1,h2=>by
  obtain⟨rfl,_⟩:=(show v= .str a/\_ from h1)
  cases e with
  |non=>cases(show V.str a=V.non from h2)
  |str b=>obtain⟨q,_⟩:=(show V.str a=V.str b/\_ from h2);cases q;rfl
  |int b=>cases(show V.str a=V.int b from h2)
  |tup ys=>erw[h2,p,us,q,_];cases q
  |_=>simp[nD] at he
 | .int a,e,v,_,he,h1,h2=>by
  cases(show v= .int a from h1)
  cases e with
  |non=>cases(show V.int a=V.non from h2)
  |str b=>obtain⟨q,_⟩:=(show V.int a=V.str b/\_ from h2);cases q
  |int b=>cases(show V.int a=V.int b from h2);rfl
  |tup ys=>erw[h2,p,us,q,_];cases q
  |_=>simp[nD] at he
 | .tup xs,e,v,hd,he,h1,h2=>by
  erw[id h1,p,vs,rfl,Z,hl];cases e with
  |non=>cases(show V.ref p=V.non from h2)
  |str b=>obtain⟨q,_⟩:=(show V.ref p=V.str b/\_ from h2);cases q
  |int b=>cases(show V.ref p=V.int b from h2)
  |tup ys=>
   erw[h2,p',us,q,O,U];cases q;rw[Z] at O;cases O;rw[IsL.detN (by simpa [nD] using hd) (by simpa [nD] using he) hl U]
  |_=>simp[nD] at he
 | .bl _,_,_,hd,_,_,_=>by simp[nD] at hd
 | .lst,_,_,hd,_,_,_=>by simp[nD] at hd
 | .dct,_,_,hd,_,_,_=>by simp[nD] at hd
theorem IsL.detN {H:Hp}:∀{xs ys:om D}{vs:om V},nL xs=v_->nL ys=v_->IsL H xs vs->IsL H ys vs->xs=ys
 | [],[],_,_,_,_,_=>rfl
 | [],_::_,_,_,_,h1,h2=>by
  cases(show _= [] from h1)
  erw[h2,v,r,q,_];cases q
 |_::_,[],_,_,_,h1,h2=>by
  cases(show _= [] from h2)
  erw[h1,v,r,q,_];cases q
 |x::xs,y::ys,_,hd,he,h1,h2=>by
  erw[h1,v,r,rfl,Z,a2];erw[h2,v',r',q,b1,b2];cases q;have O:nD x=v_/\nL xs=true:=by simpa [nL] using hd
  have U:nD y=v_/\nL ys=true:=by simpa [nL] using he
  rw[Is.detN O.1 U.1 Z b1,IsL.detN O.2 U.2 a2 b2]
end
def KC:∀(xs ys:om D),eqNL xs ys=((Vn (min ↑xs ↑ys)).all (λj=>eqN (xs.getD j .non) (ys.getD j .non))&&↑xs==↑ys)
 | [],[]=>by simp[eqNL]
 | [],_::_=>by simp[eqNL]
 |_::_,[]=>by simp[eqNL]
 |x::r,y::q=>by
  have O:=KC r q;rw[uj,uj,show min (↑r+1) (↑q+1)=min ↑r ↑q+1 by omega,f_,vx,Ul]
  have e:(Vn (min ↑r ↑q)).all ((λj=>eqN ((x::r).getD j .non) ((y::q).getD j .non))∘tu)=(Vn (min ↑r ↑q)).all λj=>eqN (r.getD j .non) (q.getD j .non):=by congr 1
  rw[e];have U:(↑r+1==↑q+1)=(↑r==↑q):=by rw[vC];simp
  rw[U,pd,<-O]
  rfl
variable {e:D}{A:oj}
def si (I:#[I]){u:V}{b:o7}(U:nD e=v_)(h2:Is H e u)(O:ik u b)(Z:A.units<Vr):Vv A s .none b (eqN .non e):=by
 cases e with
 |non=>
  cases(show u= .non from h2)
  cases O;exact UE _
 |str y=>
  obtain⟨rfl,_⟩:=(show u= .str y/\_ from h2)
  erw[O,t2,rfl];exact rB _ _
 |int y=>
  cases(show u= .int y from h2)
  erw[O,t2,rfl];exact RV _ _
 |tup ys=>
  erw[id h2,p,us,rfl,hp,hl];cases O;erw[I.tuple (.inl (.of hp)),its,_,q,_];exact pM q Z
 |_=>simp[nD] at U
variable {z:Str}
def E2 (I:#[I]){t:Tok}{u:V}{b:o7}(U:nD e=v_)(h2:Is H e u)(O:ik u b)(Z:A.units<Vr):Vv A s (.str z t) b (eqN (.str z) e):=by
 cases e with
 |non=>
  cases(show u= .non from h2)
  cases O;exact RT _ _
 |str y=>
  obtain⟨rfl,_⟩:=(show u= .str y/\_ from h2)
  erw[O,t2,rfl];exact Ux _ _ _ _
 |int y=>
  cases(show u= .int y from h2)
  erw[O,t2,rfl];exact UX _ _ _ _
 |tup ys=>
  erw[id h2,p,us,rfl,hp,hl];cases O;erw[I.tuple (.inl (.of hp)),its,_,q,_];exact Fo _ _ q Z
 |_=>simp[nD] at U
def sj (I:#[I]){z:Int}{t:Tok}{u:V}{b:o7}(U:nD e=v_)(h2:Is H e u)(O:ik u b)(Z:A.units<Vr):Vv A s (.int z t) b (eqN (.int z) e):=by
 cases e with
 |non=>
  cases(show u= .non from h2)
  cases O;exact RP _ _
 |str y=>
  obtain⟨rfl,_⟩:=(show u= .str y/\_ from h2)
  erw[O,t2,rfl];exact UW _ _ _ _
 |int y=>
  cases(show u= .int y from h2)
  erw[O,t2,rfl];exact V1 _ _ _ _
 |tup ys=>
  erw[id h2,p,us,rfl,hp,hl];cases O;erw[I.tuple (.inl (.of hp)),its,_,q,_];exact pf _ _ q Z
 |_=>simp[nD] at U
def Dy {xs ys:om D}{vs us:om V}{its its':om o7}{A:oj}(hd:nL xs=v_)(he:nL ys=v_)(hl:IsL H xs vs)(O:IsL H ys us)(rv:iq vs its)(U:iq us its')
  (ih:∀x∈xs,∀(e:D) (v u:V) (a b:o7),nD x=v_->nD e=v_->Is H x v->Is H e u->ik v a->ik u b->Vv A s a b (eqN x e)):
  ∀j (a1:j<its.toArray.size) (a2:j<its'.toArray.size),Vv A s its.toArray[j] its'.toArray[j] (eqN (xs.getD j .non) (ys.getD j .non)):=λj a1 a2=>by
 have l1:↑its=↑xs:=by rw[<-↑rv,↑hl]
 have l2:↑its'=↑ys:=by rw[<-↑U,↑O]
 have Z:j<↑xs:=by rw[<-l1];simpa using a1
 have j2:j<↑ys:=by rw[<-l2];simpa using a2
 obtain⟨v1,e1,i1⟩:=hl.get (i:=j) (d:=xs[j]) (by simp[Z])
 obtain⟨v2,e2,i2⟩:=O.get (i:=j) (d:=ys[j]) (by simp[j2])
 erw[rv.get e1,b1,f1,g1];erw[U.get e2,b2,f2,g2];have k1:its.toArray[j]=b1:=by
  have:=f1;rw[uf (by rwa[l1])] at this
  simpa using this
 have k2:its'.toArray[j]=b2:=by
  have:=f2;rw[uf (by rwa[l2])] at this
  simpa using this
 have d1:xs.getD j .non=xs[j]:=by simp[VY,Z]
 have d2:ys.getD j .non=ys[j]:=by simp[VY,j2]
 rw[k1,k2,d1,d2];exact ih _ (uW Z) _ _ _ _ _ (Bq (j:=j) hd (by simp[Z])) (Bq (j:=j) he (by simp[j2])) i1 i2 g1 g2
def E1 (I:#[I]){xs:om D}{e:D}{v u:V}{a b:o7}{A:oj}(hd:nD (.tup xs)=v_)(he:nD e=v_)(h1:Is H (.tup xs) v)(h2:Is H e u)(r1:ik v a)(O:ik u b)(hu:A.units<Vr)
  (ih:∀x∈xs,∀(e:D) (v u:V) (a b:o7),nD x=v_->nD e=v_->Is H x v->Is H e u->ik v a->ik u b->Vv A.in1 s a b (eqN x e)):Vv A s a b (eqN (.tup xs) e):=by
 erw[id h1,p,vs,rfl,hp,hl];cases r1;erw[I.tuple (.inl (.of hp)),its,rv,q,_];cases e with
 |non=>
  cases(show u= .non from h2)
  cases O;exact Pc q hu
 |str y=>
  obtain⟨rfl,_⟩:=(show u= .str y/\_ from h2)
  erw[O,t2,rfl];exact Ri _ _ q hu
 |int y=>
  cases(show u= .int y from h2)
  erw[O,t2,rfl];exact Fg _ _ q hu
 |tup ys=>
  by_cases hv:V.ref p=u
  ·have:=Is.detN (e:= .tup ys) hd he h1 (hv▸h2);subst hv;cases O;rw[<-this,(EY hd).mpr rfl];exact UE _
  ·erw[id h2,p',us,rfl,aa,U];cases O;erw[I.tuple (.inl (.of aa)),its',Z,q',_];have l1:↑its=↑xs:=by rw[<-↑rv,↑hl]
   have l2:↑its'=↑ys:=by rw[<-↑Z,↑U]
   have ac:=UK (e:=λj=>eqN (xs.getD j .non) (ys.getD j .non)) q q' hu (Dy (by simpa [nD] using hd) (by simpa [nD] using he) hl U rv Z ih)
   have e1:eqN (.tup xs) (.tup ys)=((Vn (min its.toArray.size its'.toArray.size)).all (λj=>eqN (xs.getD j .non) (ys.getD j .non))&&its.toArray.size==its'.toArray.size):=by
    rw[ui,ui,l1,l2,<-KC];simp![eqN]
   rw[e1];exact T9 (λz=>hv (by rw[z])) ac
 |_=>simp[nD] at he
def Abp (I:#[I]):∀(n:Nat) (d e:D) (v u:V) (a b:o7) (A:oj),dp d<=n->nD d=v_->nD e=v_->Is H d v->Is H e u->ik v a->ik u b->A.units+n<Vr->Vv A s a b (eqN d e):=by
 intro n
 induction n with
 |zero=>
  intro d e v u a b A hn hd U h1 h2 Z r2 hu;cases d with
  |non=>
   cases(show v= .non from h1)
   cases Z;exact si I U h2 r2 hu
  |int z=>
   cases(show v= .int z from h1)
   erw[Z,t,rfl];exact sj I U h2 r2 hu
  |str z=>simp[dp] at hn
  |tup xs=>simp[dp] at hn
  |_=>simp[nD] at hd
 |succ n ih=>
  intro d e v u a b A hn hd U h1 h2 Z r2 hu;have O:A.units<cLine:=vV (UQ _ _) hu;cases d with
  |non=>
   cases(show v= .non from h1)
   cases Z;exact si I U h2 r2 O
  |int z=>
   cases(show v= .int z from h1)
   erw[Z,t,rfl];exact sj I U h2 r2 O
  |str z=>
   obtain⟨rfl,_⟩:=(show v= .str z/\_ from h1)
   erw[Z,t,rfl];exact E2 I U h2 r2 O
  |tup xs=>
   have hm:dpL xs<=n:=by
    have:dp (.tup xs)=1+dpL xs:=by simp![dp]
    omega
   exact E1 I hd U h1 h2 Z r2 O λx hx e v u a b k1 k2 k3 k4 k5 k6=>ih x e v u a b A.in1 ((zr xs).mp hm x hx) k1 k2 k3 k4 k5 k6 (by rw[uS];omega)
  |_=>simp[nD] at hd
inductive AcA (g:Bool->Bool)(x:V)(y:V)(H:Hp)(Q:VK):Prop
 |mk (ds es:List D)(_:Is H (.tup ds) x)(_:Is H (.tup es) y)(_:nL ds=v_)(_:nL es=v_)(_:dpL ds<=60)(_:Q (.bl (g (eqNL ds es))) H)
variable {ds:om D}{y:V}{u:o7}
def AdZ (I:#[I]){es:om D}{x:V}{v:o7}(h1:Is H (.tup ds) x)(h2:Is H (.tup es) y)(hn:nL ds=v_)(Z:nL es=v_)(hd:dpL ds<=60)(rx:ik x v)(ry:ik y u)(hu:X.A.units+64<Vr):
  FU X.A s v u (eqNL ds es)/\Rt X.A s v u (!eqNL ds es):=by
 erw[id h1,p,vs,rfl,hp,hl];erw[id h2,p',us,rfl,aa,O];cases rx;cases ry;erw[I.tuple (.inl (.of hp)),its,rv,q,_];erw[I.tuple (.inl (.of aa)),its',U,q',_];have l1:↑its=↑ds:=by rw[<-↑rv,↑hl]
 have l2:↑its'=↑es:=by rw[<-↑U,↑O]
 have pe:=Dy (A:=X.A.in1) hn Z hl O rv U λx hx e v u a b k1 k2 k3 k4 k5 k6=>Abp I 60 x e v u a b X.A.in1 ((zr ds).mp hd x hx) k1 k2 k3 k4 k5 k6 (by rw[uS];omega)
 have e1:=UK (e:=λj=>eqN (ds.getD j .non) (es.getD j .non)) q q' () pe
 have e2:=FI (e:=λj=>eqN (ds.getD j .non) (es.getD j .non)) q q' () pe
 rw[ui,ui,l1,l2,<-KC] at e1 e2;exact[e1:e2]
def DF (U:X.A.units+64<Vr):OpR X (Vt .NotEq) (AcA not):=by
 exists 2,x,y,v,u,Q,I,Z,ry,h;erw[h,ds,es,h1,h2,hn,O,hd,q];exact(AdZ I h1 h2 hn O hd Z ry U).2 X.prog X.w X.xe _ ⟨.bl _,H,I,1,q⟩
end
structure FF (K:o0)(mg:Str->oq o7)(x:Str)(st:Stmt)(ps:om Str)(f:o6)(fd:Vk):Prop where
 F:Fun K x x st f fd
 b:zG K fd ps []
 m:mg x=u_ (.ref f)
structure FM (K:o0)(C:o6)(x q:Str)(st:Stmt)(ps:om Str)(f:o6)(fd:Vk):Prop where
 F:Fun K x q st f fd
 b:zG K fd ps []
 h:Ab6 K C x f
nonrec def FZ (K:o0)(x q:Str)(st:Stmt)(f:o6):Prop:=∃(oc kV dc pm cd ct:o7) (od an:oq o6) (sl:Array (oq o7)),K.lookup f=u_ ⟨oc,od,.func (PySem.W.fnOf x q (YH st) (yY st) (qq st) .none kV dc pm an cd ct),sl⟩/\PySem.W.codeIn K cd q=v_/\PySem.W.keepIn K (.ref f)=v_
nonrec def FZg (K:o0)(x:Str)(st:Stmt)(f:o6):Prop:=PySem.W.nsIn K VG x=u_ (u_ (.ref f))/\FZ K x x st f
nonrec def FZm (K:o0)(C:o6)(x q:Str)(st:Stmt)(f:o6):Prop:=PySem.W.findIn K (.ref C) x=u_ (u_ (.ref f))/\PySem.W.isFn K (.ref f)=v_/\FZ K x q st f
nonrec def BOk (x q:Str)(st:Stmt)(ps:om Str):Prop:=∀(kV doc pm:o7) (an:oq o6) (cdv ct:o7) (us:om o7),↑us=↑ps->Gb (PySem.W.fnOf x q (YH st) (yY st) (qq st) .none kV doc pm an cdv ct) [us:[]]=pure (ps.zip us)
variable {K:o0}{h:o9}{mg:Str->oq o7}{x:Str}{st:Stmt}
def Qj (X:K.In h)(G:h.Ns VG mg){f:o6}(z:FZg K x st f)(ps:om Str)(O:BOk x x st ps):∃fd,FF K mg x st ps f fd:=by
 erw[z,a,oc,kV,dc,pm,U,ct,od,an,sl,l,c,k];have F:=Nd (st:=st) l c k;exact⟨_,F,F.binds O,uT X G a⟩
variable {C:o6}
def yV {q:Str}{f:o6}(z:FZm K C x q st f)(ps:om Str)(O:BOk x q st ps):∃fd,FM K C x q st ps f fd:=by
 erw[z,a,i,oc,kV,dc,pm,U,ct,od,an,sl,l,c,k];have F:=Nd (st:=st) l c k;exact⟨_,F,F.binds O,[a:i:k]⟩
def FF.law {ps:om Str}{f:o6}{fd:Vk}(T:FF K mg x st ps f fd){y:Str}(h:∀(kV doc pm:o7) (an:oq o6) (cdv ct u:o7),Gb (PySem.W.fnOf x x (YH st) (yY st) (qq st) .none kV doc pm an cdv ct) [[u]:[]]=pure [(y,u)])(s:o8)(u:o7):GN s fd [[u]:[]] [(y,u)]:=by
 erw[T.F.ex,oc,od,kV,doc,pm,an,cdv,ct,osl,rfl,lk,O];exact .of_eq (h kV doc pm an cdv ct u)
nonrec def txt? (u:o7):oq Str:=match u with
 | .str z _=>u_ z
 |_=>U_
nonrec def TZ (K:o0)(q:o6)(l:om Str):Prop:=∃(d:oq o6) (i:Array o7) (n:Nat) (sl:Array (oq o7)),K.lookup q=u_ ⟨.type "tuple",d,.seq i n,sl⟩/\i.toList.map txt? =l.map u_
def zC:∀{l:om Str}{us:om o7},us.map txt? =l.map u_->iq (l.map V.str) us
 | [],[],_=> .nil
 |z::l,u::us,h=>by
  rw[ur,ur] at h;injection h with h1 h2
  cases u with
  |str y t=>
   have:y=z:=uF h1;subst this;exact .cons [t:1] (zC h2)
  |_=>cases h1
 | [],_::_,h=>by simp at h
 |_::_,[],h=>by simp at h
variable {H:Hp}{q:o6}{l:om Str}
def TZ.sq (h:TZ K q l)(Z:↑l<=100):SqT K H q (l.map V.str):=by
 erw[h,d,its,n,sl,U,e];have O:its.size=↑l:=by rw[<-v9];simpa using Ab VC e
 exact .inr ⟨_,its,n,U,1,1,by rw[O];exact V9 (XT ()),zC e⟩
nonrec def TZn (K:o0)(a:o6)(x:Str)(l:om Str):Prop:=∃q,PySem.W.nsIn K a x=u_ (u_ (.ref q))/\TZ K q l
end L2
namespace L2
open PySem PyProof.Rows
variable {σ:St}{H:Hp}
def qC {t u:TS}{D:mW}(h:∀N:St->Hp->Prop,(∀O H',u D O H'->N O H')->t {D with nx:=N} σ H):mX t u D σ H:=h (u D) λ_ _ h=>h
section
variable {X:Cx}{ot:om (o6×Obj)}{σ:St}{H:Hp}{s:o8}{d:o6}
def Inv.redesc {u O:HO}(I:#[I])(h:H d=u_ u)(n1:∀xs,u≠ .tup xs)(Z:∀y,u≠ .own y)(n3:∀ps,u≠ .tbl ps)(n4:∀o v,X.H₀ d≠u_ (.frz o v))(new:yy X.prog X.w (upd H d O) s.heap d O):Inv X ot σ (upd H d O) s:=by
 have U:∀b,H b=U_->upd H d O b=none:=λb e=>by rw[qm (λz=>by rw[z,h] at e;cases e)];exact e
 exists I.ok,I.os,I.bare,⟨I.base.keep,I.base.slot,λb o q n hx=>U b (I.base.free b o q n hx),I.base.there,λb xs q=>?_,λb o v q=>?_,λb ps q=>?_⟩,I.loc,I.cell,U _ I.free,λx c e=>U _ (I.freeC x c e),λp hp=>?_,λb v e=>?_,I.len,I.tk
 ·have e:=I.base.tups b xs q;rw[qm (λz=>by rw[z,h] at e;exact n1 xs (uF e))]
  exact e
 ·have e:=I.base.frzs b o v q;rw[qm (λz=>n4 o v (by rwa[<-z]))]
  exact e
 ·erw[I.base.tbls b ps q,more,e];exact⟨more,by rw[qm (λz=>by rw[z,h] at e;exact n3 _ (uF e))];exact e⟩
 ·erw[I.pin p hp,h1,h2,h3,h4,h5];exact⟨h1,U _ h2,h3,h4,h5⟩
 ·by_cases c:b=d
  ·subst c;rw[qk] at e;cases e;exact new
  ·rw[qm c] at e;exact(I.hok b v e).stay (λ_ _ _ q=>q) (λc q=>by rw[qm (λz=>by rw[z,h] at q;exact Z _ (uF q))];exact q) λc xs q=>by rw[qm (λz=>by rw[z,h] at q;exact n1 _ (uF q))];exact q
end
def Wc {xs:om V}{us:om o7}(r:iq xs us):∀is:om Nat,iq (is.filterMap (xs[·]?)) (is.filterMap (us[·]?))
 | []=> .nil
 |i::is=>by
  rw[U0,U0];have U:=↑r;cases e:xs[i]? with
  |none=>
   have:us[i]? =none:=Rp (by have:=List.getElem?_eq_none_iff.mp e;omega)
   rw[this];exact Wc r is
  |some x=>
   erw[r.get e,u,O,g];rw[O];exact .cons g (Wc r is)
end L2
namespace L2
open PySem PySem.Spec PyProof.Rows
section
variable {X:Cx}{ot:om (o6×Obj)}{σ:St}{H:Hp}{s:o8}{d:o6}
def Inv.holdK {kvs:om (Key×V)}(I:#[I])(h:H d=u_ (.dK kvs)):(∀o v,X.H₀ d≠u_ (.frz o v))/\∃o,Inv X ot σ (upd H d (.frz o (.dK kvs))) s:=by
 have O:∀o v,X.H₀ d≠u_ (.frz o v):=λo v z=>by have:=I.base.frzs d o v z;rw[h] at this;cases this
 erw[L9 I.hok h,U,lo,vs,r,dd];erw[id dd,o,es,ep,Z,rr];exact⟨O,o,I.redesc h (λ_ z=>by cases z) (λ_ z=>by cases z) (λ_ z=>by cases z) O [Z:su U lo r dd]⟩
end
section
variable {x q:Str}{st:Stmt}{a b c d:Str}
def bo1 (h:∀(kV doc pm:o7) (an:oq o6) (cdv ct u:o7),Gb (PySem.W.fnOf x q (YH st) (yY st) (qq st) .none kV doc pm an cdv ct) [[u]:[]]=pure [(a,u)]):BOk x q st [a]:=by
 intro k1 k2 k3 U k5 Z us O;rcases us with _|⟨u,_|⟨_,_⟩⟩
 ·cases O
 ·exact h k1 k2 k3 U k5 Z u
 ·cases O
def bo2 (h:∀(kV doc pm:o7) (an:oq o6) (cdv ct u v:o7),Gb (PySem.W.fnOf x q (YH st) (yY st) (qq st) .none kV doc pm an cdv ct) [[u,v]:[]]=pure [(a,u),(b,v)]):BOk x q st [a,b]:=by
 intro k1 k2 k3 U k5 Z us O;rcases us with _|⟨u,_|⟨v,_|⟨_,_⟩⟩⟩
 ·cases O
 ·cases O
 ·exact h k1 k2 k3 U k5 Z u v
 ·cases O
def bo3 (h:∀(kV doc pm:o7) (an:oq o6) (cdv ct u v w:o7),Gb (PySem.W.fnOf x q (YH st) (yY st) (qq st) .none kV doc pm an cdv ct) [[u,v,w]:[]]=pure [(a,u),(b,v),(c,w)]):BOk x q st [a,b,c]:=by
 intro k1 k2 k3 U k5 Z us O;rcases us with _|⟨u,_|⟨v,_|⟨w,_|⟨_,_⟩⟩⟩⟩
 ·cases O
 ·cases O
 ·cases O
 ·exact h k1 k2 k3 U k5 Z u v w
 ·cases O
def bo4 (h:∀(kV doc pm:o7) (an:oq o6) (cdv ct u v w z:o7),Gb (PySem.W.fnOf x q (YH st) (yY st) (qq st) .none kV doc pm an cdv ct) [[u,v,w,z]:[]]=pure [(a,u),(b,v),(c,w),(d,z)]):BOk x q st [a,b,c,d]:=by
 intro k1 k2 k3 U k5 Z us O;rcases us with _|⟨u,_|⟨v,_|⟨w,_|⟨z,_|⟨_,_⟩⟩⟩⟩⟩
 ·cases O
 ·cases O
 ·cases O
 ·cases O
 ·exact h k1 k2 k3 U k5 Z u v w z
 ·cases O
end
nonrec def Ab7 (K:o0)(a:o6)(n:Nat):It:=
 ⟨λi H=>i<n/\∃xs,SqL K H a xs/\↑xs=n,λi H x H'=>H'=H/\∀xs,SqL K H a xs->xs[n-1-i]? =u_ x,λi _=>i=n⟩
variable {w:oh}{K:o0}{tg:Expr}
def CH {P:og}(a it:o6)(n:Nat):Np P w K tg (Ab7 K a n) [it] it (λi h=>i<=n/\h.IsRevIter it a ((n:Int)-1-(i:Int))) where
 mem:=by simp
 obj:=λi h st b U=>by
  have e:b=it:=by simpa using U
  subst e;erw[st,_,o,e,c,d];exact⟨o,e,λv z=>by rw[d] at z;cases z⟩
 keep:=λi h h' st k=>⟨st.1,st.2.at λo e=>k it (by simp) o e⟩
 item:=by
  intro X hP hw hK hc i ot s σ H E I hf st hg;subst hP hw hK;erw[hg,hi,xs,hq,hx];erw[I.list hq,its,rv,p,hz];erw[rv.get (i:=n-1-i) (x:=xs[n-1-i]'()) (uf ()),u,hu,ru]
  obtain⟨f0,f1,f2,f3,f4,f5⟩:=hf it (by simp)
  have e0:(n:Int)-1-(i:Int)=((n-1-i:Nat):Int):=by omega
  have O:=st.2;rw[e0] at O;refine wpAny_pyNext_rev_item O p.isList (x:=u) (by simpa using hu) λh' Z sb=>?_
  have I1:Inv X ot σ H {s with heap:=h'}:=I.turned (t':=s.toks) (λb o U e=>(sb.2 b U).trans e) f0 f1 f3 f4 f5
  erw[id Z,o,e,c,d];exists u,1,Cs (s:={s with heap:=h'}) e c d () ⟨xs[n-1-i]'(),H,I1,ru,[1:λys hy=>?_],[hi:?_],λb U=>(hf b U).1⟩
  ·rw[I.list_inj hy hq];exact uf ()
  ·rw[show(n:Int)-1-((i+1:Nat):Int)=((n-1-i:Nat):Int)-1 by omega]
   exact Z
 done:=by
  intro X hP hw hK hc i ot s σ H E I hf st hg;subst hP hw hK;have hi:i=n:=hg;subst hi;obtain⟨f0,f1,f2,f3,f4,f5⟩:=hf it (by simp)
  have O:=st.2;rw[show(i:Int)-1-(i:Int)= -1 by omega] at O
  exact wpAny_pyNext_rev_end (I.ok.hd hc) O λh' eb=>[1:I.turned (t':=s.toks) (λb o U e=>eb b o U e) f0 f1 f3 f4 f5]
 self:=λ_ _ _ _ _ st h=>Re st.2 h
nonrec def AcW (K:o0)(te:TE):TI:=λσ H R=>te σ H λx H2=>∃a xs,x= .ref a/\SqL K H2 a xs/\R (Ab7 K a ↑xs) H2
section
variable {X:Cx}
def OM {tg:Expr}{p pos:Pos}{e:Expr}{te:TE}(hg:Gl X "reversed")(hm:X.mg "reversed"=U_)(he:PE X e te)(hs:Vm [e] X.env= [(Vh,eval e X.env)]):
  PI X tg (.Call (.Name "reversed" p) [e] [] pos) (AcW X.K te):=by
 exists 2,R,I,h;have ha:PA X [e] (IN te ND):=qf he qh hs;refine HZ (zh I hg hm Fz (vf (thn (ha pos ot s σ H (λvs H2=>match vs with| [x]=>∃a xs,x= .ref a/\SqL X.K H2 a xs/\R (Ab7 X.K a ↑xs) H2|_=>False) I h) λus s2 zq=>?_) (by rw[hs];rfl) ()));erw[zq,vs,H2,U,Z,q1]
 match vs,Z,q1 with
 | [x],Z,q1=>
 erw[q1,a,xs,rfl,hA,q];erw[jQ Z,u,rfl,ru];cases ru;erw[U.list hA,its,ra,pa,za];have hl:=↑ra;refine Rh pa.isList ?_;have O:(s2.heap.push (GP a ((its.toArray.size:Int)-1))).IsRevIter #[0,s2] a ((its.toArray.size:Int)-1):=⟨_,uE _ rfl,1,1⟩;refine Re O ?_;exists _,[#[0,s2]],_,_,H2,1,U.kept (t':=s2.toks) (λb o e=>ud _ e),CH a _ ↑xs,[uG _:?_],λx hx=>?_,q
 ·simpa [hl] using O
 ·have e:x=#[0,s2]:=by simpa using hx
  subst e;exact U.fpOk (ug _) (U.hok.fresh (ug _))
end
section
variable {prog:og}{w:oh}{A:oj}{E:o7->o8->Prop}{s:o8}{I l:o6}{items:Array o7}
def Cf {R:Ge->o8->Prop}(hh:A.handled=U_)(ag:l≠I)(aa:s.heap.IsRevIter I l ((items.size:Int)-1))(hl:s.heap.IsList l items)(S:o6)(ac:S≠I)(ah:S≠l)(res:o7)(c₀:Nat)(hS:s.heap.get? S=u_ {cls:= .type "list",data:= .seq #[] c₀})
  (hR:∀s' O Z,Moved [S,I] (λa b=>b=a) s s'->s'.heap.get? S=u_ {cls:= .type "list",dict:=U_,data:= .seq O Z,slots:= #[]}->ItemsOf (λi v=>items[items.size-1-i]? =u_ v) O items.size->R (.ok (.ret res)) s') (hn:items.size<=Vl):
  Vi #[w,w] A.in1 (HJ (.ref S) (.ref I) res)
   (λfin s'=>match fin with| .done f=>R (.ok f) s'| .again Z=>Z.quiet=v_/\VR #[w,w] A Z R s') (λe s'=>R (.error e) s') s:=by
 have W:=(Walks.listRev (prog:=prog) (w:=w) (A:=A.in1) hh I l ag items).toS;have ad:(0<=items.size/\s.heap.IsRevIter I l ((items.size:Int)-1-((0:Nat):Int))/\s.heap.IsList l items):=⟨uG _,by simpa using aa,hl⟩
 have ak:S∉ [I,l]:=λm=>by
  rcases Ac.mp m with e|m
  ·exact ac e
  ·exact ah (Ae.mp m)
 have U:s.TypeIs (.ref I) "list_reverseiterator":=let⟨o,e,c,_⟩:=aa;[o:e:c];have h1:RN (.ref S) (.ref I)=false:=by simp[RN,ac]
 unfold HJ;refine A8 (Gi U ?_);rw[A4 (by rw[h1];decide)]
 refine A8 (W.self 0 _ _ _ ad ?_);refine A8 (VM ?_);unfold Pe;refine A8 (tW U Eb ?_);show Vi _ A.in1 (specialOf (Vo I) (Gr "__length_hint__")>>=_) _ _ _;refine A8 (tW U LX ?_)
 (generalize ae:("list_reverseiterator.__length_hint__":String)=al;wp_delta;rw[show splitId al=u_ ("list_reverseiterator","__length_hint__") from by subst ae;decide+kernel];subst ae)
 refine A8 (UP (b:=v_) U (by rw[Ro];kernel_rfl) ?_)
 refine uz ?_;rw[A4 ()]
 exact uz [TD PySem.F.plain_extend_loop _:codeAny_extend_loopS W hn _ ak _ items.size 0 _ _ _ rfl (uG _) ad hS (ItemsOf.nil _) λs' O Z hm am af=>hR s' O Z hm am af]
def Lj {Q:o7->o8->Prop}(hh:A.handled=U_)(ac:l≠I)(Z:s.heap.IsRevIter I l ((items.size:Int)-1))(hl:s.heap.IsList l items)(hn:items.size<=Vl)
  (hQ:∀h' tk O c',(∀b o,b≠I->s.heap.get? b=u_ o->h'.get? b=u_ o)->h'.get? #[0,s]=u_ {cls:= .type "list",dict:=U_,data:= .seq O c',slots:= #[]}->ItemsOf (λi v=>items[items.size-1-i]? =u_ v) O items.size->Q (.ref #[0,s]) {s with heap:=h',toks:=tk}):
  Vi #[w,w] A (call (.type "list") [.ref I]) Q E s:=by
 have hI:I<#[0,s]:=let⟨_,e,_⟩:=Z;uB e;have hL:l<#[0,s]:=let⟨_,e,_⟩:=hl;uB e;refine FS (Q₁:=λobj s₁=>obj= .ref #[0,s]/\s₁={s with heap:=s.heap.push {cls:= .type "list",data:= .seq #[]}}) PySem.F.called_list (PySem.F.typeCall_list_1 _) PySem.F.entry_list_init
  (code_list_new _ [1:1]) λobj s₁ h₁=>?_
 erw[h₁,rfl,rfl];have hS:(s.heap.push {cls:= .type "list",data:= .seq #[]}).get? #[0,s]=u_ {cls:= .type "list",data:= .seq #[]}:=uE _ rfl;exists [_:hS:1],PySem.F.args_list_init_2 _ _;show Vi _ _ (do let old<-FT (.ref #[0,s]);pZ (.ref #[0,s]) (λ_=> #[]);letGo old.toList.reverse;HJ (.ref #[0,s]) (.ref I) .none) _ _ _
 refine A8 ?_;unfold FT;refine A8 (Ua hS rfl (uz ?_));show Vi _ _ (updateSeq #[0,s] (λ_=> #[])>>=λ_=>letGo (#[]:Array o7).toList.reverse>>=λ_=>HJ (.ref #[0,s]) (.ref I) .none) _ _ _;refine A8 (wpAny_updateSeq hS rfl ?_);have ad:=HU (Gz (λ_=>(#[]:Array o7))) hS rfl;have U:∀b o,s.heap.get? b=u_ o->((s.heap.push {cls:= .type "list",data:= .seq #[]}).update #[0,s] (Gz (λ_=>(#[]:Array o7)))).get? b=u_ o:=
  λb o e=>(Us _ _ (vZ (uB e))).trans (ud _ e)
 refine A8 (T8 ?_);refine Cf (A:=A.in1) (items:=items) hh ac (Z.at λo e=>U I o e) (hl.at λo e=>U l o e) #[0,s] (vZ hI) (vZ hL) .none _ ad (λs' O c' hm ae aa=>?_) hn;rw[Moved.eq_with hm];exists 1,hQ s'.heap s'.toks O c' (λb o hb e=>hm.heap b o (λm=>?_) (U b o e)) ae aa;rcases Ac.mp m with e'|m
 ·exact uO (uB e) e'
 ·exact hb (Ae.mp m)
end
inductive Mg (K:PySem.W.Frag)(Q:VK)(v:V)(H1:Hp):Prop
 |mk (l:_)(ys:_)(_:v= .ref l)(_:SqL K H1 l ys)(_:∀t,H1 t=U_->Q (.ref t) (upd H1 t (.lst ys.reverse)))
nonrec def NE (K:o0)(te:TE):TE:=λσ H Q=>te σ H λv H1=>Mg K Q v H1
section
variable {X:Cx}
def Dw {x y:Str}{e:Expr}{te:TE}{p p2 pos cpos:Pos}(hc:X.calm=v_)(hg:Gl X x)(hm:X.mg x=U_)(hv:Gf x=u_ (.type "list"))(ad:Gl X y)(ae:X.mg y=U_)(af:Gf y=u_ (.type "reversed"))(hp:PE X e te)
  (hn:x≠"__name__") (ag:(x==("__debug__":Str))=Vh) (ah:y≠"__name__") (U:(y==("__debug__":Str))=Vh)
  (he:Vm [.Call (.Name y p2) [e] [] cpos] X.env=(Vh,eval (.Call (.Name y p2) [e] [] cpos) X.env)::Vm [] X.env) (ak:(Vu pos (Vm [] X.env)).any (·.1)=Vh)
  (Z:Vm [e] X.env=(Vh,eval e X.env)::Vm [] X.env) (aa:(Vu cpos (Vm [] X.env)).any (·.1)=Vh):
  PE X (.Call (.Name x p) [.Call (.Name y p2) [e] [] cpos] [] pos) (NE X.K te):=by
 exists 2,Q,I,h;refine U5 (zh I hg hm hv ?_ hn ag);refine vf ?_ he ak;rw[he];show Vi _ _ (Hl ((Vh,eval (.Call (.Name y p2) [e] [] cpos) X.env)::Vu pos (Vm [] X.env))) _ _ s;refine vT ?_;refine U5 (zh I ad ae af ?_ ah U);refine vf ?_ Z aa;rw[Z];show Vi _ _ (Hl ((Vh,eval e X.env)::Vu cpos (Vm [] X.env))) _ _ s;refine vT (thn (hp ot s σ H _ I h) λv s1 ⟨x1,H1,I1,r1,l,ys,ex,hl,q⟩=>Ue ?_);subst ex;cases r1;erw[I1.list hl,its,rv,pl,hz];have aq:=↑rv;refine Rh pl.isList (Ue ?_);have al:(s1.heap.push (GP l ((its.toArray.size:Int)-1))).IsRevIter #[0,s1] l ((its.toArray.size:Int)-1):=⟨_,uE _ rfl,1,1⟩;have am:(s1.heap.push (GP l ((its.toArray.size:Int)-1))).IsList l its.toArray:=pl.isList.at λo z=>ud _ z;have ao:l≠#[0,s1]:=let⟨_,z,_⟩:=pl.isList;uO (uB z);refine uX (n:=1) I1.tk ?_;refine Lj (s:={s1 with heap:=s1.heap.push (GP l ((its.toArray.size:Int)-1))}) (I1.ok.hd hc) ao al am (by rw[ui];omega) λh' tk O c k1 k2 k3 htk=>?_
 have au:O.size=↑its:=by have:=k3.1;simpa using this
 have k0:∀b u,s1.heap.get? b=u_ u->h'.get? b=u_ u:=λb u z=>k1 b u (uO (uB z)) (ud _ z);have hsz:#[0,s1]<=(s1.heap.push (GP l ((its.toArray.size:Int)-1))).objs.size:=by rw[vt];exact Hg _
 refine⟨.ref _,_,I1.laid (t':=tk) (o:= .lst ys.reverse) (a:=(s1.heap.push (GP l ((its.toArray.size:Int)-1))).objs.size) k0 hsz ⟨by rwa[vM],O.toList,c,?_,by rw[Array.toArray_toList];exact k2⟩ htk,1,q _ (I1.hok.fresh hsz)⟩
 refine Z5 (by rw[vM,v9 (xs:=O)];omega) λj a v ha ap=>?_
 have hj:j<↑ys:=by
  have:=(Ai.mp ha).1
  rwa[vM] at this
 rw[List.getElem?_reverse hj] at ha;have ac:its.toArray[its.toArray.size-1-j]? =u_ v:=k3.2 j v (by rwa[<-UF])
 have e6:its.toArray.size-1-j=↑ys-1-j:=by simp;omega
 rw[e6] at ac;erw[rv.get ha,u,eu,ru];have:its[↑ys-1-j]? =u_ v:=by simpa using ac
 rw[this] at eu;cases eu;exact ru
inductive AbP (K:PySem.W.Frag)(Q:VK)(x:V)(y:V)(H3:Hp):Prop
 |mk (k:Int)(_:y= .int k)(_:k≠0)(a:_)(xs:_)(_:x= .ref a)(_:SqL K H3 a xs)(_:∀ys p,↑ys<=↑xs->(∀y∈ys,y∈xs)->H3 p=U_->Q (.ref p) (upd H3 p (.lst ys)))
nonrec def Ach (K:o0)(te:TE)(tl:TO)(tf:TE):TE:=λσ H Q=>te σ H λx H1=>tl σ H1 λ_ H2=>tf σ H2 λy H3=>AbP K Q x y H3
def Dv {e f:Expr}{te tf:TE}{lo:oq Expr}{tl:TO}{pos p2}(he:PE X e te)(hl:PO X lo tl)(hf:PE X f tf)(U:Hh (.Slice lo U_ (u_ f) p2) Vh=λv u=>HX [v,u] (VT v u)):PE X (.Subscript e (.Slice lo U_ (u_ f) p2) pos) (Ach X.K te tl tf):=by
 exists 2,Q,I,h;refine Hs (thn (he ot s σ H _ I h) λv s1 zq=>?_);erw[zq,x,H1,I1,r1,q1];refine Rq (thn (hl ot s1 σ H1 _ I1 q1) λvl s2 zq=>?_);erw[zq,lv,H2,I2,pl,q2];rw[Fe];refine uz ?_;rw[Rk];refine thn (hf ot s2 σ H2 _ I2 q2) λu O h3=>?_;erw[h3,y,H3,I3,r3,k,rfl,hk,a,xs,rfl,hH,q];erw[r3,tk,rfl];cases r1;have I4:Inv X ot σ H3 {O with heap:=O.heap.push {cls:= .type "slice",data:= .fields #[vl,.none,.int k tk]}}:=I3.kept (t':=O.toks) λb ob q=>ud _ q
 erw[I4.list hH,its,r,Z,hz];have aa:its.toArray.size=↑xs:=by rw[ui];exact r.length.symm
 show Vi #[X,X] X.A (Hy e (.Slice lo U_ (u_ f) p2) (.ref a) (.ref #[0,O])) (EP X ot σ Q) X.xe {O with heap:=O.heap.push {cls:= .type "slice",data:= .fields #[vl,.none,.int k tk]}}
 refine HP (ops:= [.ref a,.ref #[0,O]]) Z.isList.typeIs slot_list_getitem.lookup ?_ (by rw[U])
 refine rW (st:=u_ k) Z.isList (Rl ..) pl .none (.int k tk) (by simpa using hk) ?_ (by rwa[aa])
 have hsz:=slicePick_size_le its.toArray lv U_ (u_ k);unfold tI at hsz⊢;generalize sliceRange (VZ lv U_ (u_ k) its.toArray.size).1 (VZ lv U_ (u_ k) its.toArray.size).2.1 (VZ lv U_ (u_ k) its.toArray.size).2.2=is at hsz⊢;have ep:is.filterMap (its.toArray[·]?)=is.filterMap (its[·]?):=by simp
 rw[ep] at hsz⊢;have vp:=Wc r is;have ac:(is.filterMap (xs[·]?)).length<=↑xs:=by
  rw[↑vp];rwa[ui,ui,<-↑r] at hsz
 exists .ref _,_,I4.laid (t':=O.toks) (o:= .lst (is.filterMap (xs[·]?))) (λb ob q=>ud _ q) (ug _) ⟨uL ac hz,_,(0),vp,uE _ rfl⟩,1,q _ _ ac (λy hy=>?_) (I4.hok.fresh (ug _));erw[List.mem_filterMap.mp hy,i,_,hi];exact uK hi
def KP (hc:X.calm=v_):Yv X (.builtin "sorted") (λxs H Q=>∃(d:o6) (kvs:om (Key×V)) (ls:om Str),xs= [.ref d]/\Rd H d (.dK kvs)/\kvs.map (·.1)=ls.map Vj/\↑ls<64/\∀(Z:om Str) (q:o6),Z.Perm ls->Gy Z=v_->H q=U_->Q (.ref q) (upd H q (.lst (Z.map V.str)))):=by
 exists 2,xs,us,Q,I,r,h;erw[h,d,kvs,ls,rfl,hd,hk,am,q];erw[jQ r,u,rfl,ru];cases ru;erw[W0 I.hok hd,hz,lo,vs,ae,dd];erw[id dd,o,es,ep,ho];have af:s.heap.DictAt (Qu X.prog X.w) d vs ep:=[o:es:ho];have aa:↑vs=↑ls:=by
  have h1:=Ab VC hk;rw[u9,u9] at h1;rw[<-↑ae,h1]
 refine uX (n:=1) I.tk ?_;refine Ug t_ Ti tE (tY _) ?_;unfold Go.«sorted»;refine A8 (m:=Fa "sorted" 1 1 _) (uz ?_);refine A8 (PySem.W.kdu_collect (A:=X.A.in1) (PySem.W.kdl_dict lo) (I.ok.hd hc) af (by rw[aa,uw];omega) λh' tk U ag O=>?_)
 have hS:HL U.toList ls:=by
  refine Y9 (Z5 (by rw[u9,v9];exact aa.symm.trans O.1.symm) λj x v hx hv=>?_)
  rw[uD] at hx;cases ac:ls[j]? with
  |none=>rw[ac] at hx;cases hx
  |some z=>
   rw[ac] at hx;cases hx;obtain⟨k,y,e1,e2⟩:=O.2 j v (by rwa[<-UF])
   have e3:(kvs.map (·.1))[j]? =u_ k:=by
    rw[ae.keys,uD,e1]
    rfl
   rw[hk,uD,ac] at e3;cases e3;rcases Qx (show Kv (Vj z) v=v_ from e2) with⟨i,t,e4,e5⟩|⟨z',t,e4,e5⟩
   ·cases e4
   ·cases e4;exact[t:e5]
 have ah:↑U.toList=↑ls:=by rw[v9,O.1,aa]
 refine A8 (Va ?_ (by rw[ah,uw];omega))
 have ad:(h'.push (GM "list" U.toList.toArray 0)).get? h'.objs.size=u_ (GM "list" U.toList.toArray 0):=uE _ rfl;refine A8 (VM (vH Te [_:ad:1] TQ (TU Ts ad hS.keysOf (λv₁ v₂ rest e=>TB (by rwa[<-e])) () λak a1 a2=>[0:?_]) (Tz _)))
 refine uz [0:?_];erw[Tb hS a1 a2,Z,b1,b2,b3];erw[TJ (out:=(arrOf ak).map (·.2)) ad,e,he];have al:↑Z=↑ls:=b2.length_eq;intro htk;have I':Inv X ot σ H {s with heap:=h',toks:=tk}:=I.kept ag
 exists .ref h'.objs.size,_,I'.laid (t':=tk) (o:= .lst (Z.map V.str)) (λb u w=>?_) (ug _) ⟨?_,_,e,je b1,he⟩,1,q Z _ b2 b3 (I'.hok.fresh (ug _))
 ·have hb:=uB w;rw[TL (uO hb) (by rw[Tt];exact Tu hb)]
  exact ud _ w
 ·rw[u9,al,uw];omega
inductive OE (K:PySem.W.Frag)(x:V)(vs:List V)(H:Hp)(Q:VK):Prop
 |mk (p:Addr)(zs:List Str)(z:Str)(j:Nat)(_:x= .ref p)(_:vs= [.str z])(_:SqL K H p (zs.map V.str))(_:zs[j]? =u_ z)(_:(∀m,m<j->zs[m]? ≠u_ z))(_:↑zs<=100000)(_:Q (.int (j:Int)) H)
def oI:MtM X "list.index" (OE X.K):=by
 exists 2,x,vs,v,us,Q,I,rx,rv,h;erw[h,p,zs,z,j,rfl,rfl,hp,O,hm,hz,q];cases rx;erw[rv.one,u,rfl,ru];erw[ru,t,rfl];erw[I.list hp,its,r,pl,hl];erw[X6 r,ps,rfl,rfl];erw[id pl.isList,[cls,dd,data,sl],ho,hc,n,hd];simp only at hc hd;subst hc hd;have U:Hj ps=ps.map λp=>VI p.1 p.2:=rfl;rw[uD] at O;have Z:j<↑ps:=by
  cases e:ps[j]? with
  |none=>rw[e] at O;cases O
  |some y=>exact(Ai.mp e).1
 rw[u9] at hz;have at_:∀m (hm:m<(Hj ps).toArray.size),(Hj ps).toArray[m]= .str (ps[m]'(by simpa [U] using hm)).1 (ps[m]'(by simpa [U] using hm)).2:=λm hm=>by simp[U]
 refine vL F.slot_list_index [_:ho:1] F.entry_list_index (F.args_list_index_2 _ _) (SeqAt.list_indexAt p (Hj ps).toArray n dd sl (.str z t) (λy=>match y with| .str c _=>c==z|_=>Vh) j (by simpa [U] using Z) () ?_ ?_) [ho:λy hy=>?_:?_]
 ·rw[at_];rw[uf Z] at O;have:ps[j].1=z:=uF O;simp[this]
 ·intro m ad aa;rw[at_];have ac:m<↑ps:=by omega
  have:=hm m aa;rw[uD,uf ac] at this;have h3:ps[m].1≠z:=λe=>this (Ab u_ e);simp[h3]
 ·obtain⟨c,_,rfl⟩:=Ag.mp (show y∈ps.map λp=>VI p.1 p.2 by simpa [U] using hy)
  exact Ux _ _ _ _
 ·exact⟨.int (j:Int),H,I.tok _,[s.toks:1],q⟩
end
end L2
namespace L2
open PySem PyProof.Rows
nonrec def cl {α β:Type}(t:α->β->TS)(a:α)(b:β):TS:=t a b
section
variable {α β:Type}{t u:α->β->TS}{c:α->β->TT}{wi:α->β->TI}{g:α->β->TG}{a:α}{b:β}{D:mW}{σ:St}{H:Hp}
def cl_i (h:let S:St:=σ;let D1:mW:=D;cl t a b D1 S H):t a b D σ H:=h
def seq_oC (h:let S:St:=σ;let D1:mW:=D;∀N:St->Hp->Prop,(∀O H',cl u a b D1 O H'->N O H')->let E:mW:={D1 with nx:=N};cl t a b E S H):cl (λx y=>mX (t x y) (u x y)) a b D σ H:=h (u a b D) λ_ _ h=>h
def seq_0 (h:let S:St:=σ;let D1:mW:=D;let E:mW:={D1 with nx:=cl u a b D1};cl t a b E S H):cl (λx y=>mX (t x y) (u x y)) a b D σ H:=h
def if_C (h:let S:St:=σ;let D1:mW:=D;c a b S H λk H1=>if k=v_ then cl t a b D1 S H1 else cl u a b D1 S H1):cl (λx y=>Adt (c x y) (t x y) (u x y)) a b D σ H:=h
def while_C (h:let S:St:=σ;let D1:mW:=D;∃W:Nat->St->Hp->Prop,(∃m,W m S H)/\∀m σ H,W m σ H->
 c a b σ H λk H1=>if k=v_ then∃N:St->Hp->Prop,(∀O H',N O H'->∃U,U<m/\W U O H')/\cl t a b {D1 with nx:=N,ct:=N,bk:=D1.nx} σ H1 else D1.nx σ H1):cl (λx y=>Ms (c x y) (t x y)) a b D σ H:=h
def for_C (h:let S:St:=σ;let D1:mW:=D;wi a b S H λJ H1=>∃W:Nat->Nat->St->Hp->Prop,(∃m,W 0 m S H1)/\∀i m σ H,W i m σ H->
 (J.stop i H/\D1.nx σ H)∨(J.go i H/\∃N:St->Hp->Prop,(∀O H',N O H'->∃U,U<m/\W (i+1) U O H')/\∀x H',J.yld i H x H'->g a b x σ H' λZ H2=>cl t a b {D1 with nx:=N,ct:=N,bk:=D1.nx} Z H2)):cl (λx y=>Adu (wi x y) (g x y) (t x y)) a b D σ H:=h
end
end L2
namespace L2
open PySem PySem.Spec PySem.W PyProof.Rows
variable {i:Nat}{v:V}{σ:St}{H:Hp}
def gN_ {Q:St->Hp->Prop}(h:Q (σ.set i (u_ v)) H):Y5 i v σ H Q:=h
section
variable {X:Cx}
nonrec def AdT (t:TE):TE:=λσ H Q=>∃d kvs,H d=u_ (.dK kvs)/\∀o,t σ (upd H d (.frz o (.dK kvs))) Q
def AaF {e:Expr}{t:TE}(h:PE X e t):PE X e (AdT t):=by
 rintro ot s σ H Q I ⟨d,kvs,hd,q⟩;erw[I.holdK hd,_,o,O];exact h ot s σ _ _ O (q o)
def Zp:Yv X (.builtin "sorted") (λxs H Q=>∃(p:o6) (ls:om Str),xs= [.ref p]/\SqT X.K H p (ls.map V.str)/\↑ls<64/\∀(O:om Str) (q:o6),O.Perm ls->Gy O=v_->H q=U_->Q (.ref q) (upd H q (.lst (O.map V.str)))):=by
 exists 2,xs,us,Q,I,r,h;erw[h,p,ls,rfl,hp,ae,q];erw[jQ r,u,rfl,ru];cases ru;erw[I.tuple hp,its,rv,[o,ho,hc,n,hd],hz];have hS:=Y9 rv;have Z:↑its=↑ls:=by have:=↑rv;simpa using this.symm
 have hsz:its.toArray.size<=sizeLine:=by
  rw[ui,Z,uw];omega
 refine Ug t_ Ti tE (tY _) ?_;unfold Go.«sorted»;refine A8 (m:=Fa "sorted" 1 1 _) (uz ?_);refine A8 (wpAny_collect_seq (A:=X.A.in1) p (.inr rfl) ho hc hd (λh' aa=>?_) hsz);refine A8 (Va ?_ (by rw[show ↑its.toArray.toList=↑its from rfl,Z,uw];omega))
 have U:(h'.push (GM "list" its.toArray 0)).get? h'.objs.size=u_ (GM "list" its.toArray 0):=uE _ rfl;refine A8 (VM (vH Te [_:U:1] TQ (TU Ts U hS.keysOf (λv₁ v₂ rest e=>TB (by rwa[<-e])) () λac a1 a2=>[0:?_]) (Tz _)))
 refine uz [0:?_];erw[Tb hS a1 a2,O,b1,b2,b3];erw[TJ (out:=(arrOf ac).map (·.2)) U,e,he];have ad:↑O=↑ls:=b2.length_eq;have I':Inv X ot σ H {s with heap:=h'}:=I.kept (t':=s.toks) aa
 exists .ref h'.objs.size,_,I'.laid (t':=s.toks) (o:= .lst (O.map V.str)) (λb u w=>?_) (ug _) ⟨?_,_,e,je b1,he⟩,1,q O _ b2 b3 (I'.hok.fresh (ug _))
 ·have hb:=uB w;rw[TL (uO hb) (by rw[Tt];exact Tu hb)]
  exact ud _ w
 ·rw[u9,ad,uw];omega
end
end L2
namespace K22
open PySem L2 PyProof.Rows
inductive A5 (p0 p1 p2 p3 p4:Prop):Prop
 |mk (_:p0)(_:p1)(_:p2)(_:p3)(_:p4)
inductive E3 {t0 t1 t2:Type}(p:t0->t1->t2->Prop):Prop
 |mk (x0:t0)(x1:t1)(x2:t2)(h:p x0 x1 x2)
open Builtin.Int (intBits)
nonrec def top (i:Nat):Stmt:=PySem.Challenge.pw_askwright_k22_chains_and_rings.main.body.getD i (.Pass ⟨(0),(0),(0),(0)⟩)
noncomputable abbrev WP:Stmt:=top 16
noncomputable abbrev XF:Stmt:=top 17
noncomputable abbrev wC:Stmt:=top 18
noncomputable abbrev WI:Stmt:=top 20
noncomputable abbrev y9:Stmt:=top 21
noncomputable abbrev XC:Stmt:=top 22
noncomputable abbrev WD:Stmt:=top 28
noncomputable abbrev Xm:Stmt:=top 29
noncomputable abbrev Z0:Stmt:=top 30
noncomputable abbrev J5:Stmt:=top 31
noncomputable abbrev Xt:Stmt:=top 32
noncomputable abbrev zQ:Stmt:=top 33
noncomputable abbrev wp:Stmt:=top 34
noncomputable abbrev Xy:Stmt:=top 37
noncomputable abbrev Xh:Stmt:=top 38
noncomputable abbrev Xn:Stmt:=top 39
noncomputable abbrev zH:Stmt:=top 40
noncomputable abbrev Zf:Stmt:=top 41
noncomputable abbrev Xu:Stmt:=top 42
noncomputable abbrev J3:Stmt:=top 43
noncomputable abbrev Xs:Stmt:=top 44
noncomputable abbrev Xj:Stmt:=top 45
noncomputable abbrev Zb:Stmt:=top 46
noncomputable abbrev Xk:Stmt:=top 47
noncomputable abbrev YW:Stmt:=top 49
noncomputable abbrev Yo:Stmt:=top 50
noncomputable abbrev jt:Stmt:=Qm (top 51) 0
noncomputable abbrev jX:Stmt:=Qm (top 51) 1
noncomputable abbrev Yt:Stmt:=Qm (top 51) 2
noncomputable abbrev Y2:Stmt:=Qm (top 51) 3
noncomputable abbrev YJ:Stmt:=Qm (top 51) 6
noncomputable abbrev yg:Stmt:=Qm (top 51) 7
noncomputable abbrev Yq:Stmt:=Qm (top 51) 8
noncomputable abbrev jp:Stmt:=Qm (top 51) 9
noncomputable abbrev JO:Stmt:=Qm (top 53) 0
noncomputable abbrev jH:Stmt:=Qm (top 53) 1
noncomputable abbrev Jp:Stmt:=Qm (top 53) 2
noncomputable abbrev jk:Stmt:=Qm (top 53) 3
noncomputable abbrev J0:Stmt:=Qm (top 53) 4
noncomputable abbrev JE:Stmt:=Qm (top 53) 5
noncomputable abbrev Ya:Stmt:=Qm (top 54) 0
noncomputable abbrev QY:Stmt:=Qm (top 54) 1
noncomputable abbrev Q0:Stmt:=Qm (top 54) 2
noncomputable abbrev yP:Stmt:=Qm (top 54) 3
noncomputable abbrev yw:Stmt:=Qm (top 54) 4
noncomputable abbrev yr:Stmt:=Qm (top 54) 5
noncomputable abbrev yC:Stmt:=Qm (top 54) 6
noncomputable abbrev yG:Stmt:=Qm (top 54) 7
noncomputable abbrev Q1:Stmt:=Qm (top 54) 8
noncomputable abbrev Yp:Stmt:=top 55
noncomputable abbrev Xl:Stmt:=top 56
noncomputable abbrev Js:Stmt:=top 57
noncomputable abbrev jV:Stmt:=top 58
noncomputable abbrev J7:Stmt:=top 59
noncomputable abbrev JC:Stmt:=top 60
noncomputable abbrev zR:Stmt:=top 61
noncomputable abbrev xO:Stmt:=top 64
noncomputable abbrev Yd:Stmt:=Qm (top 65) 0
noncomputable abbrev jC:Stmt:=Qm (top 65) 1
noncomputable abbrev yt:Stmt:=Qm (top 65) 2
noncomputable abbrev QW:Stmt:=Qm (top 65) 3
noncomputable abbrev jL:Stmt:=top 66
noncomputable abbrev jJ:Stmt:=top 68
noncomputable abbrev Wa:Stmt:=top 69
noncomputable abbrev zw:Stmt:=top 70
noncomputable abbrev zO:Stmt:=top 71
noncomputable abbrev xb:Stmt:=top 72
noncomputable abbrev xh:Stmt:=top 73
noncomputable abbrev Xa:Stmt:=top 74
noncomputable abbrev xf:Stmt:=top 75
noncomputable abbrev J2:Stmt:=top 76
noncomputable abbrev Y0:Stmt:=top 77
noncomputable abbrev zT:Stmt:=top 78
noncomputable abbrev jT:Stmt:=top 79
noncomputable abbrev Yw:Stmt:=top 80
noncomputable abbrev yd:Stmt:=top 81
noncomputable abbrev Xp:Stmt:=top 82
noncomputable abbrev YN:Stmt:=top 83
noncomputable abbrev Q9:Stmt:=top 84
noncomputable abbrev JF:Stmt:=top 85
noncomputable abbrev Xc:Stmt:=top 86
noncomputable abbrev Yx:Stmt:=top 87
noncomputable abbrev Lg:Stmt:=top 88
set_option genInjectivity false in
set_option genSizeOf false in
structure Ad where
 f_is_text:o6
 d_is_text:Vk
 f_is_tree:o6
 d_is_tree:Vk
 f_is_name:o6
 d_is_name:Vk
 f_is_pair:o6
 d_is_pair:Vk
 jB:o6
 jE:Vk
 wH:o6
 wq:Vk
 f_part_of:o6
 d_part_of:Vk
 Wh:o6
 WC:Vk
 f_row_of:o6
 d_row_of:Vk
 Zw:o6
 Zr:Vk
 wA:o6
 wZ:Vk
 kj:o6
 W7:Vk
 f_is_rule:o6
 d_is_rule:Vk
 XA:o6
 wM:Vk
 Xx:o6
 Wo:Vk
 Xo:o6
 wP:Vk
 zZ:o6
 W5:Vk
 zN:o6
 W4:Vk
 Xe:o6
 Wx:Vk
 J1:o6
 Zl:Vk
 xV:o6
 WG:Vk
 xY:o6
 Wu:Vk
 zV:o6
 kG:Vk
 Xq:o6
 wF:Vk
 JV:o6
 JG:Vk
 Jb:o6
 j0:Vk
 js:o6
 xz:Vk
 X1:o6
 XJ:Vk
 Ja:o6
 j7:Vk
 JP:o6
 J8:Vk
 Jv:o6
 JM:Vk
 Yz:o6
 Yy:Vk
 Jd:o6
 jZ:Vk
 xL:o6
 xM:Vk
 JY:o6
 ZD:Vk
 zo:o6
 XY:Vk
 ZG:o6
 Zm:Vk
 xG:o6
 xy:Vk
 Zv:o6
 Zt:Vk
 Zu:o6
 Zo:Vk
 Yb:o6
 jy:Vk
 yL:o6
 yQ:Vk
 yM:o6
 yI:Vk
 jf:o6
 Y6:Vk
 YR:o6
 YI:Vk
 YL:o6
 YX:Vk
 Y8:o6
 jg:Vk
 Y7:o6
 jj:Vk
 yH:o6
 yB:Vk
 j9:o6
 Jf:Vk
 Wj:o6
 wL:Vk
 ZE:o6
 Zq:Vk
 XE:o6
 XN:Vk
 Zi:o6
 Zn:Vk
 ZF:o6
 Zz:Vk
 kJ:o6
 kX:Vk
 wg:o6
 Wr:Vk
 jo:o6
 xI:Vk
 Zc:o6
 zP:Vk
 YM:o6
 YY:Vk
 YS:o6
 YQ:Vk
 zu:o6
 X3:Vk
 zd:o6
 XI:Vk
 f_law_pot:o6
 d_law_pot:Vk
 W9:o6
 ke:Vk
 kh:o6
 Kg:Vk
 Kf:o6
 Ka:Vk
 kA:o6
 Kh:Vk
 wY:o6
 Wf:Vk
 kl:o6
 W6:Vk
 ZC:o6
 Zk:Vk
 Jq:o6
 J6:Vk
 kE:o6
 kP:Vk
 zn:o6
 X7:Vk
 j3:o6
 Je:Vk
 jF:o6
 jD:Vk
 WN:o6
 Wb:Vk
 Jz:o6
 Jn:Vk
 Jx:o6
 JL:Vk
 Zj:o6
 Zs:Vk
 wv:o6
 Wk:Vk
 Jc:o6
 j8:Vk
 f_law:o6
 d_law:Vk
 qr:o6
 qN:o6
 qu:o6
 qQ:o6
structure Tx (K:o0)(mg:Str->oq o7)(a:Ad):Prop where
 mI:FF K mg "is_text" WP ["value"] a.f_is_text a.d_is_text
 iD:FF K mg "is_tree" XF ["value"] a.f_is_tree a.d_is_tree
 iA:FF K mg "is_name" wC ["value"] a.f_is_name a.d_is_name
 mj:FF K mg "is_pair" WI ["value"] a.f_is_pair a.d_is_pair
 iF:FF K mg "is_row_of_names" y9 ["tree"] a.jB a.jE
 mQ:FF K mg "is_answer" XC ["ask","answer"] a.wH a.wq
 nc:FF K mg "part_of" WD ["kind","piece","count"] a.f_part_of a.d_part_of
 mL:FF K mg "pieces_of" Xm ["line","form"] a.Wh a.WC
 oY:FF K mg "row_of" Z0 ["line","count"] a.f_row_of a.d_row_of
 lQ:FF K mg "read_lines" J5 ["value"] a.Zw a.Zr
 lq:FF K mg "rule_rows" Xt ["tree"] a.wA a.wZ
 lU:FF K mg "bad_line" zQ ["tree"] a.kj a.W7
 lK:FF K mg "is_rule" wp ["value"] a.f_is_rule a.d_is_rule
 ll:FF K mg "text_made" Xy ["boxes","own","parts"] a.XA a.wM
 lp:FF K mg "self_made" Xh ["boxes","own","parts"] a.Xx a.Wo
 lE:FF K mg "copy_made" Xn ["boxes","own","parts"] a.Xo a.wP
 lP:FF K mg "row_made" zH ["boxes","own","parts"] a.zZ a.W5
 lR:FF K mg "put_made" Zf ["boxes","own","parts"] a.zN a.W4
 lC:FF K mg "join_made" Xu ["boxes","own","parts"] a.Xe a.Wx
 iY:FF K mg "first_made" J3 ["boxes","own","parts"] a.J1 a.Zl
 lr:FF K mg "rest_made" Xs ["boxes","own","parts"] a.xV a.WG
 lm:FF K mg "size_made" Xj ["boxes","own","parts"] a.xY a.Wu
 lS:FF K mg "cut_made" Zb ["boxes","own","parts"] a.zV a.kG
 lD:FF K mg "glue_made" Xk ["boxes","own","parts"] a.Xq a.wF
 lX:FF K mg "is_jump_taken" YW ["boxes","word","parts"] a.JV a.JG
 lL:FF K mg "asked_or_fault" Yo ["word","held"] a.Jb a.j0
 ld:FM K a.qr "__init__" "Machine.__init__" jt ["self","rule","own"] a.js a.xz
 iE:FM K a.qr "now" "Machine.now" jX ["self"] a.X1 a.XJ
 io:FM K a.qr "answer" "Machine.answer" Yt ["self","tree"] a.Ja a.j7
 iJ:FM K a.qr "asked" "Machine.asked" Y2 ["self"] a.JP a.J8
 iQ:FM K a.qr "go_on" "Machine.go_on" YJ ["self"] a.Jv a.JM
 iw:FM K a.qr "is_waiting" "Machine.is_waiting" yg ["self"] a.Yz a.Yy
 lO:FM K a.qr "do_row" "Machine.do_row" Yq ["self","row"] a.Jd a.jZ
 mf:FM K a.qr "hold" "Machine.hold" jp ["self","box","tree"] a.xL a.xM
 mD:FM K a.qN "__init__" "Going.__init__" JO ["self","name","source","order"] a.JY a.ZD
 lH:FM K a.qN "begin" "Going.begin" jH ["self","rule"] a.zo a.XY
 lV:FM K a.qN "look" "Going.look" Jp ["self"] a.ZG a.Zm
 mh:FM K a.qN "wanted" "Going.wanted" jk ["self"] a.xG a.xy
 iZ:FM K a.qN "take" "Going.take" J0 ["self","answer"] a.Zv a.Zt
 mE:FM K a.qN "full" "Going.full" JE ["self"] a.Zu a.Zo
 lG:FM K a.qu "__init__" "PlainOrder.__init__" Ya ["self","project"] a.Yb a.jy
 iB:FM K a.qu "begin_anew" "PlainOrder.begin_anew" QY ["self","project"] a.yL a.yQ
 iM:FM K a.qu "go_through" "PlainOrder.go_through" Q0 ["self","name"] a.yM a.yI
 iK:FM K a.qu "enter" "PlainOrder.enter" yP ["self","name"] a.jf a.Y6
 iT:FM K a.qu "settle" "PlainOrder.settle" yw ["self","going"] a.YR a.YI
 iU:FM K a.qu "runner" "PlainOrder.runner" yr ["self","rule","own"] a.YL a.YX
 ky:FM K a.qu "leave" "PlainOrder.leave" yC ["self","going"] a.Y8 a.jg
 lc:FM K a.qu "go_on" "PlainOrder.go_on" yG ["self","going"] a.Y7 a.jj
 ii:FM K a.qu "answer_yet" "PlainOrder.answer_yet" Q1 ["self","name"] a.yH a.yB
 lN:FF K mg "answer_at_once" Yp ["source"] a.j9 a.Jf
 mR:FF K mg "answer_by" Xl ["end"] a.Wj a.wL
 mC:FF K mg "check_name" Js ["name"] a.ZE a.Zq
 mo:FF K mg "check_names" jV ["names"] a.XE a.XN
 my:FF K mg "order_from" J7 ["project","name"] a.Zi a.Zn
 iX:FF K mg "order_over" JC ["project","names"] a.ZF a.Zz
 lT:FF K mg "chain_of" zR ["project","name"] a.kJ a.kX
 mP:FF K mg "is_source" xO ["value"] a.wg a.Wr
 kw:FM K a.qQ "__init__" "Project.__init__" Yd ["self","sources"] a.jo a.xI
 BI:FM K a.qQ "sources" "Project.sources" jC ["self"] a.Zc a.zP
 iH:FM K a.qQ "source_of" "Project.source_of" yt ["self","name"] a.YM a.YY
 iS:FM K a.qQ "looked_up" "Project.looked_up" QW ["self","ask"] a.YS a.YQ
 ml:FF K mg "longest_row" jL ["names"] a.zu a.X3
 ix:FF K mg "_law_cell_at" jJ ["script","k"] a.zd a.XI
 mH:FF K mg "_law_pot" Wa ["cell","salt"] a.f_law_pot a.d_law_pot
 ig:FF K mg "_law_take" zw ["pot","many"] a.W9 a.ke
 iC:FF K mg "_law_word" zO ["pot","names"] a.kh a.Kg
 mZ:FF K mg "_law_line" xb ["pot","names","many","k"] a.Kf a.Ka
 mq:FF K mg "_law_rule" xh ["pot","names"] a.kA a.Kh
 mM:FF K mg "_law_maker" Xa ["pot","names"] a.wY a.Wf
 mr:FF K mg "_law_leaf" xf ["pot","names"] a.kl a.W6
 mz:FF K mg "_law_source" J2 ["pot","names"] a.ZC a.Zk
 iP:FF K mg "_law_all_names" Y0 ["script"] a.Jq a.J6
 mY:FF K mg "_law_link" zT ["pot","names","k"] a.kE a.kP
 mn:FF K mg "_law_sources" jT ["script"] a.zn a.X7
 lI:FF K mg "_law_wide_names" Yw ["script"] a.j3 a.Je
 lz:FF K mg "_law_drawn_names" yd ["script","salt","many"] a.jF a.jD
 me:FF K mg "_law_tried" Xp ["sources","name","values"] a.WN a.Wb
 iI:FF K mg "_law_looked_up" YN ["sources","kind","text"] a.Jz a.Jn
 lW:FF K mg "_law_by_rounds" Q9 ["sources"] a.Jx a.JL
 mB:FF K mg "_law_ringed" JF ["script","pairs"] a.Zj a.Zs
 mO:FF K mg "_law_chain" Xc ["runs","name"] a.wv a.Wk
 lJ:FF K mg "_law_deep_right" Yx ["cell"] a.Jc a.j8
 BH:FF K mg "law" Lg ["script"] a.f_law a.d_law
 qw:Cls K a.qr
 M_Machine:Mk K a.qr a.js
 m_Machine:mg "Machine"=u_ (.ref a.qr)
 Yf:QS K a.qr "rows"
 WU:QS K a.qr "rule"
 zc:QS K a.qr "own"
 QE:QS K a.qr "boxes"
 Qt:QS K a.qr "place"
 yi:QS K a.qr "done"
 YV:QS K a.qr "given"
 qO:QS K a.qr "there"
 qX:Cls K a.qN
 M_Going:Mk K a.qN a.JY
 m_Going:mg "Going"=u_ (.ref a.qN)
 Yj:QS K a.qN "name"
 X5:QS K a.qN "order"
 yE:QS K a.qN "made_by"
 y8:QS K a.qN "rule_asks"
 Qa:QS K a.qN "rule_run"
 Q8:QS K a.qN "end"
 qF:Cls K a.qu
 M_PlainOrder:Mk K a.qu a.Yb
 m_PlainOrder:mg "PlainOrder"=u_ (.ref a.qu)
 Qh:QS K a.qu "given_project"
 QG:QS K a.qu "stack"
 QF:QS K a.qu "under_way"
 yT:QS K a.qu "full_runs"
 QH:QS K a.qu "found"
 YK:Cls K a.qQ
 M_Project:Mk K a.qQ a.jo
 m_Project:mg "Project"=u_ (.ref a.qQ)
 yc:QS K a.qQ "by_name"
 m_MOST_SIGNS:∃t,mg "MOST_SIGNS"=u_ (.int 300 t)
 m_MOST_PARTS:∃t,mg "MOST_PARTS"=u_ (.int 40 t)
 m_MOST_SIZE:∃t,mg "MOST_SIZE"=u_ (.int 600 t)
 m_MOST_DEPTH:∃t,mg "MOST_DEPTH"=u_ (.int 12 t)
 zJ:∃t,mg "MOST_NAME_SIGNS"=u_ (.int 24 t)
 m_LETTERS:∃t,mg "LETTERS"=u_ (.str "abcdefghijklmnopqrstuvwxyz" t)
 m_NAME_SIGNS:∃t,mg "NAME_SIGNS"=u_ (.str "abcdefghijklmnopqrstuvwxyz0123456789./" t)
 m_PERCENT:∃t,mg "PERCENT"=u_ (.int 37 t)
 m_MOST_LINES:∃t,mg "MOST_LINES"=u_ (.int 40 t)
 m_MOST_DONE:∃t,mg "MOST_DONE"=u_ (.int 300 t)
 m_MOST_NAMES:∃t,mg "MOST_NAMES"=u_ (.int 60 t)
 z_ord:mg "ord"=U_
 yh:mg "len"=U_
 qY:mg "isinstance"=U_
 XL:mg "str"=U_
 Qr:mg "tuple"=U_
 z_all:mg "all"=U_
 z_int:mg "int"=U_
 Y3:mg "range"=U_
 z_zip:mg "zip"=U_
 z_dict:mg "dict"=U_
 Z1:mg "sorted"=U_
 z_abs:mg "abs"=U_
 z_min:mg "min"=U_
 z_sum:mg "sum"=U_
 z_max:mg "max"=U_
 ko:mg "reversed"=U_
 z_list:mg "list"=U_
def kH:qz ["value","sign"] ["value"] (qq WP):=by trivial
def yz:qz ["value","size","waiting","pair","part","depth"] ["value"] (qq XF):=by trivial
def Cc:qz ["value"] ["value"] (qq wC):=by trivial
def Cb:qz ["value"] ["value"] (qq WI):=by trivial
def XV:qz ["tree"] ["tree"] (qq y9):=by trivial
def nR:qz ["ask","answer"] ["ask","answer"] (qq XC):=by trivial
def ku:qz ["kind","piece","count","numbers"] ["kind","piece","count"] (qq WD):=by trivial
def nP:qz ["line","form"] ["line","form"] (qq Xm):=by trivial
def JR:qz ["line","count","word","form","pieces","parts"] ["line","count"] (qq Z0):=by trivial
def YE:qz ["value","rows","line","row"] ["value"] (qq J5):=by trivial
def ZI:qz ["tree","read"] ["tree"] (qq Xt):=by trivial
def sQ:qz ["tree"] ["tree"] (qq zQ):=by trivial
def Ca:qz ["value"] ["value"] (qq wp):=by trivial
def nJ:qz ["boxes","own","parts"] ["boxes","own","parts"] (qq Xy):=by trivial
def nO:qz ["boxes","own","parts"] ["boxes","own","parts"] (qq Xh):=by trivial
def nS:qz ["boxes","own","parts"] ["boxes","own","parts"] (qq Xn):=by trivial
def sP:qz ["boxes","own","parts"] ["boxes","own","parts"] (qq zH):=by trivial
def WH:qz ["boxes","own","parts","row"] ["boxes","own","parts"] (qq Zf):=by trivial
def JA:qz ["boxes","own","parts","one","other"] ["boxes","own","parts"] (qq Xu):=by trivial
def zg:qz ["boxes","own","parts","whole"] ["boxes","own","parts"] (qq J3):=by trivial
def ZA:qz ["boxes","own","parts","whole"] ["boxes","own","parts"] (qq Xs):=by trivial
def nN:qz ["boxes","own","parts"] ["boxes","own","parts"] (qq Xj):=by trivial
def Xw:qz ["boxes","own","parts","whole","between"] ["boxes","own","parts"] (qq Zb):=by trivial
def JQ:qz ["boxes","own","parts","row","between"] ["boxes","own","parts"] (qq Xk):=by trivial
def ZR:qz ["boxes","word","parts"] ["boxes","word","parts"] (qq YW):=by trivial
def zx:qz ["word","held"] ["word","held"] (qq Yo):=by trivial
def WB:qz ["self","rule","own"] ["self","rule","own"] (qq jt):=by trivial
def WQ:qz ["self"] ["self"] (qq jX):=by trivial
def jx:qz ["self","tree","ask"] ["self","tree"] (qq Yt):=by trivial
def ZM:qz ["self"] ["self"] (qq Y2):=by trivial
def ZL:qz ["self"] ["self"] (qq YJ):=by trivial
def Jt:qz ["self"] ["self"] (qq yg):=by trivial
def yW:qz ["self","row","word","parts"] ["self","row"] (qq Yq):=by trivial
def We:qz ["self","box","tree"] ["self","box","tree"] (qq jp):=by trivial
def KR:qz ["self","name","source","order"] ["self","name","source","order"] (qq JO):=by trivial
def WR:qz ["self","rule"] ["self","rule"] (qq jH):=by trivial
def KM:qz ["self"] ["self"] (qq Jp):=by trivial
def WK:qz ["self"] ["self"] (qq jk):=by trivial
def Ko:qz ["self","answer"] ["self","answer"] (qq J0):=by trivial
def X0:qz ["self","asks"] ["self"] (qq JE):=by trivial
def X8:qz ["self","project"] ["self","project"] (qq Ya):=by trivial
def jw:qz ["self","project"] ["self","project"] (qq QY):=by trivial
def QV:qz ["self","name","top","missing"] ["self","name"] (qq Q0):=by trivial
def Xi:qz ["self","name"] ["self","name"] (qq yP):=by trivial
def xp:qz ["self","going"] ["self","going"] (qq yw):=by trivial
def xu:qz ["self","rule","own"] ["self","rule","own"] (qq yr):=by trivial
def XB:qz ["self","going"] ["self","going"] (qq yC):=by trivial
def yo:qz ["self","going","ask","answer"] ["self","going"] (qq yG):=by trivial
def yA:qz ["self","name","at_once"] ["self","name"] (qq Q1):=by trivial
def zI:qz ["source"] ["source"] (qq Yp):=by trivial
def nT:qz ["end"] ["end"] (qq Xl):=by trivial
def qak:qz ["name"] ["name"] (qq Js):=by trivial
def xw:qz ["names","name"] ["names"] (qq jV):=by trivial
def KB:qz ["project","name"] ["project","name"] (qq J7):=by trivial
def jI:qz ["project","names","order","name"] ["project","names"] (qq JC):=by trivial
def y7:qz ["project","name","order","answer","names","after"] ["project","name"] (qq zR):=by trivial
def nQ:qz ["value"] ["value"] (qq xO):=by trivial
def yK:qz ["self","sources","by_name","name","source"] ["self","sources"] (qq Yd):=by trivial
def xv:qz ["self","name"] ["self","name"] (qq yt):=by trivial
def xo:qz ["self","ask"] ["self","ask"] (qq QW):=by trivial
def Ye:qz ["names","row","name"] ["names"] (qq jL):=by trivial
def WS:qz ["script","k"] ["script","k"] (qq jJ):=by trivial
def YF:qz ["cell","salt","step","big","k"] ["cell","salt"] (qq Wa):=by trivial
def wI:qz ["pot","many","digit"] ["pot","many"] (qq zw):=by trivial
def Wz:qz ["pot","names","some"] ["pot","names"] (qq zO):=by trivial
def yq:qz ["pot","names","many","k","words","word","one","two","three","at"] ["pot","names","many","k"] (qq xb):=by trivial
def jO:qz ["pot","names","body","many","lines"] ["pot","names"] (qq xh):=by trivial
def jc:qz ["pot","names","asked","lines"] ["pot","names"] (qq Xa):=by trivial
def wU:qz ["pot","names","kind"] ["pot","names"] (qq xf):=by trivial
def XQ:qz ["pot","names","kind"] ["pot","names"] (qq J2):=by trivial
def Yu:qz ["script","first","names"] ["script"] (qq Y0):=by trivial
def wK:qz ["pot","names","k","other"] ["pot","names","k"] (qq zT):=by trivial
def Q4:qz ["script","names","pairs","k","cell","pot"] ["script"] (qq jT):=by trivial
def jA:qz ["script","names"] ["script"] (qq Yw):=by trivial
def yO:qz ["script","salt","many","pot","names"] ["script","salt","many"] (qq yd):=by trivial
def QK:qz ["sources","name","values","source","rule","asks","machine","kind","text"] ["sources","name","values"] (qq Xp):=by trivial
def yk:qz ["sources","kind","text","row","name"] ["sources","kind","text"] (qq YN):=by trivial
def qV:qz ["sources","values","name","waiting","grown","run","runs"] ["sources"] (qq Q9):=by trivial
def QM:qz ["script","pairs","names","sources","k","to","lines"] ["script","pairs"] (qq JF):=by trivial
def Jo:qz ["runs","name","names"] ["runs","name"] (qq Xc):=by trivial
def Qf:qz ["cell","names","pairs","k","project","at","turned","due"] ["cell"] (qq Yx):=by trivial
def JH:qz ["script","pairs","sources","project","runs","names","name","found","other"] ["script"] (qq Lg):=by trivial
structure Ga where
 (boxes asking forms makers br bn:o6)
nonrec def AbN:om Str:= ["ask","has","names","go","like","rowed","none","say","fault"]
structure Fx (K:o0)(w:oh)(mg:Str->oq o7)(g:Ga)(a:Ad):Prop where
 m_BOXES:mg "BOXES"=u_ (.ref g.boxes)
 m_ASKING:mg "ASKING"=u_ (.ref g.asking)
 m_FORMS:mg "FORMS"=u_ (.ref g.forms)
 m_MAKERS:mg "MAKERS"=u_ (.ref g.makers)
 boxes:∀H,SqT K H g.boxes (BX.map V.str)
 asking:∀H,SqT K H g.asking [.str "ask",.str "has",.str "names"]
 kd:IC K w g.forms
 forms:∀x∈FRM,∃q,PySem.W.nsIn K g.forms x.1=u_ (u_ (.ref q))/\∀H,SqT K H q (x.2.map λk=>V.str k.t)
 km:IC K w g.makers
 k_text:PySem.W.nsIn K g.makers "text"=u_ (u_ (.ref a.XA))
 k_self:PySem.W.nsIn K g.makers "self"=u_ (u_ (.ref a.Xx))
 k_copy:PySem.W.nsIn K g.makers "copy"=u_ (u_ (.ref a.Xo))
 k_row:PySem.W.nsIn K g.makers "row"=u_ (u_ (.ref a.zZ))
 k_put:PySem.W.nsIn K g.makers "put"=u_ (u_ (.ref a.zN))
 k_join:PySem.W.nsIn K g.makers "join"=u_ (u_ (.ref a.Xe))
 k_first:PySem.W.nsIn K g.makers "first"=u_ (u_ (.ref a.J1))
 k_rest:PySem.W.nsIn K g.makers "rest"=u_ (u_ (.ref a.xV))
 k_size:PySem.W.nsIn K g.makers "size"=u_ (u_ (.ref a.xY))
 k_cut:PySem.W.nsIn K g.makers "cut"=u_ (u_ (.ref a.zV))
 k_glue:PySem.W.nsIn K g.makers "glue"=u_ (u_ (.ref a.Xq))
 k_no:∀z∈AbN,PySem.W.nsIn K g.makers z=u_ U_
 none_:∀z,xH z=U_->PySem.W.nsIn K g.forms z=u_ U_
 m_BadRule:mg "BadRule"=u_ (.ref g.br)
 x_BadRule:PySem.W.excIn K g.br VE "ValueError.__new__"=v_
 m_BadName:mg "BadName"=u_ (.ref g.bn)
 x_BadName:PySem.W.excIn K g.bn VE "ValueError.__new__"=v_
variable {n:Nat}
def Q6 (h:n<=1000):n<=sizeLine:=V9 (XT h)
def sml (h:Nat.ble n 1000=v_):n<=sizeLine:=Q6 (Nat.le_of_ble_eq_true h)
def mt (h:n<=16000000):n<=sizeLine:=by rw[uw];omega
def jM {α:Type}{xs:om α}{i:Int}{c:α}(h:atI xs i=u_ c):c∈xs:=by
 unfold atI at h;erw[Option.bind_eq_some_iff.mp h,j,_,e];exact uK e
variable {z:Str}
def Ak (h:300<↑z):Qz z=false:=by
 unfold Qz;rw[ub ()]
 rfl
nonrec def LT:D->Bool
 | .str z=>Qz z
 |_=>Vh
inductive kI:Sp
 |mk (v:_)(d:_)(_:vs= [v])(_:Is H d v)(_:Q (.bl (LT d)) H)
inductive W3:Sp
 |mk (v:_)(d:_)(_:vs= [v])(_:Is H d v)(_:∀H',ie H H'->Q (.bl (isT d)) H')
nonrec def pr (p:D×Nat):D:= .tup [p.1,.int (p.2:Int)]
variable {i:Nat}
def Cl {c:Nat}(h:z.cps[i]? =u_ c)(O:QJ c=Vh):Qz z=false:=by
 unfold Qz;have hm:c∈z.cps.toList:=by
  have:z.cps.toList[i]? =u_ c:=by simpa using h
  exact uK this
 have:z.cps.toList.all QJ=false:=by
  rw[List.all_eq_false];exact⟨c,hm,by rw[O];exact ua⟩
 rw[this,TN]
section
variable {P:og}{w:oh}{K:o0}{mg:Str->oq o7}{base:o9}{a:Ad}
def kg:#[T,1,a.f_is_text,a.d_is_text,["value"],kI]:=by
 exists 9,T.mI,kH
 erw[h,v,d,rfl,hv,k];exists 3,%[@qK _ _ _ _ _ _ _ _ #[ZT,#[QD,#[Qo,#[qA,#[qZ,2,rfl],T.qY,uY,#v[pv 0,#[Q7,.ty "str",T.XL,UL]]]]],#[xJ,#[qt,oE,#[qA,JW,T.yh,uH,#v[pv 0]],#[qag,T.m_MOST_SIGNS]]]].pt %[|#[qv,ju]] qx,#[Yh,#[MH,4,pv 0],#[qU,(1),kH.nd],%[|@qK _ _ _ _ _ _ _ _ #[ZT,#[qt,DG,pv 1,qp],#[ZT,#[qt,DJ,pv 1,qp],#[xJ,#[qt,Qk,#[qA,Md,T.z_ord,boot_ord,#v[pv 1]],#[qag,T.m_PERCENT]]]]].pt %[|#[qv,ju]] qx]]|#[qv,ju]]
 exists 0,v,"str",tyD d,isStr d,1,hv.ty,jW d,0;cases d with
 |str z=>
  erw[hv,rfl,hz];refine iW ?_
  exists 0,z,1,hz,_,0,1,0;refine li (λc=>?_) (λc=>?_)
  ·have c':(300:Int)<(↑z:Int):=um c;have e:LT (.str z)=false:=Ak ()
   rwa[e] at k
  ·have c':¬(300:Int)<(↑z:Int):=λq=>c (A9 q)
   exists 0,z,1
   let J1_:Nat->L2.St->Hp->Prop:=λi σ H'=>(∃x,σ= [u_ (.str z),x])/\H'=H/\(z.cps.toList.take i).all QJ=v_
   refine Sl J1_ [⟨0⟩:1:1] ?_ ?_
   ·rintro i c σ H' hc ⟨⟨x,rfl⟩,rfl,O⟩;have U:QJ c=Vh->Q (.bl Vh) H':=λe=>by
     have e':LT (.str z)=false:=Cl hc e;rwa[e'] at k
    exists 0,_,0,1,0;rw[show decide ((⟨#[c]⟩:Str).cps.toList<(" ":Str).cps.toList)=decide (c<32) from Aa1 c 32]
    refine li (λc1=>?_) (λc1=>?_)
    ·refine lj (U ?_);have:=um c1;unfold QJ;rw[ub ()]
     rfl
    ·have aa:¬c<32:=λq=>c1 (A9 q)
     exists 0,_,0,1,0;rw[show decide (("~":Str).cps.toList<(⟨#[c]⟩:Str).cps.toList)=decide (126<c) from AaN c 126]
     refine li (λc2=>?_) (λc2=>?_)
     ·refine lj (U ?_);have:=um c2;unfold QJ;rw[ub (p:=c<=126) (),TN]
      rfl
     ·have ac:¬126<c:=λq=>c2 (A9 q)
      exists 0,0,1,1,0;refine li (λc3=>?_) (λc3=>?_)
      ·have Z:c=37:=by
        have:=um c3;have:=V.int.inj this;exact pG this
       exact U (by subst Z;rfl)
      ·have Z:c≠37:=λq=>c3 (A9 (by rw[q];rfl))
       exists ⟨0⟩,1;rw[vb,show z.cps.toList[i]? =u_ c by simpa using hc,V3,O]
       show(v_&&(QJ c&&v_))=v_;unfold QJ;rw[A9 (),A9 (p:=c<=126) (),A9 Z]
       rfl
   ·rintro σ H' ⟨⟨x,rfl⟩,rfl,O⟩;have e:LT (.str z)=true:=by
     show Qz z=v_;unfold Qz;rw[ve (by simp)] at O
     rw[O,A9 ()]
     rfl
    rwa[e] at k
 |_=>exact lj (lj k)
def Bt {α β:Type}(f:α->β)(xs:om α)(x:α):(xs++ [x]).map f=xs.map f++ [f x]:=by simp
def PZ {α:Type}(us:om α)(x:α):(us++ [x])[↑(us++ [x])-1]? =u_ x:=by simp
def E5 {α:Type}(us:om α)(x:α):(us++ [x]).dropLast=us:=by simp
nonrec def Wt (v:V)(d:D)(H:Hp)(L:o6)(m:Nat)(σ:L2.St)(H':Hp):Prop:=
 ∃(n:Nat) (w:om (D×Nat)) (ws:om V) (x3 x4 x5:oq V),σ= [u_ v,u_ (.int n),u_ (.ref L),x3,x4,x5]/\ie H H'/\H' L=u_ (.lst ws)/\IsL H' (w.map pr) ws/\G w n=isT d/\n<=600/\↑w<=1+40*n/\m=ndL (w.map (·.1))
def jG:#[T,2,a.f_is_tree,a.d_is_tree,["value"],W3]:=by
 have WF:=#[kg,T];refine T.iD.F.ok yz () (λ_ _ _ _ H vs Q E hr h=>?_)
 erw[h,v,d,rfl,hv,k];exists 3,%[#[qD,(1),yz.nd,ql],#[qD,(2),yz.nd,#[QA,#v[#[qB,#v[pv 0,ql]]]]],#[ji,#[Bb,3,pv 2,(λ_=>rfl)],%[#[qD,(3),yz.nd,#[MJ,9,uJ,PySem.F.slot_list_pop,PySem.F.type_list_pop,MT,pv 2,_,_]],#[qD,(4),yz.nd,#[qJ,qI,pv 3,ql]],#[qD,2,(5),4,yz.nd,rfl,VV rfl,#[qJ,qI,pv 3,ql],_,_],@qK _ _ _ _ _ _ _ _ #[zm,#[Qo,#[qA,#[qZ,2,rfl],T.qY,uY,#v[pv 4,#[Q7,.ty "tuple",T.Qr,vc]]]],#[Jy,#[qt,DH,#[qA,KU,T.yh,uH,#v[pv 4]],#[qag,T.m_MOST_PARTS]]]].pt %[#[ME,2,(1),6,yz.nd,rfl,G9 rfl,ql,M9,_]|#[Qd,#[Y4,uJ,PySem.F.slot_list_extend,PySem.F.type_list_extend,oJ,pv 2,#v[#[zk,["below","depth"],[5],En (qq XF) ["value","size","waiting","pair","part","depth"],#[KS,4,pv 4],(λ_ _ _ _ _ _=>#[qU,(0),(show Vy (["below","depth"]:om Str) by decide+kernel)]),(λ_ _ _ _ _ _=>#[qB,#v[pv 0,#[qS,yf,pv 1,ql]]])]]]]] %[|#[qK,#[Qo,#[qy,WF,T.mI,#v[pv 4]]],%[|#[ME,2,(1),6,yz.nd,rfl,G9 rfl,#[qS,yf,ql,#[qA,KU,T.yh,uH,#v[pv 4]]],M9,_]],%[|#[qv,ju]]]]|@qK _ _ _ _ _ _ _ _ #[ZT,#[qt,oE,pv 5,#[qag,T.m_MOST_DEPTH]],#[xJ,#[qt,oE,pv 1,#[qag,T.m_MOST_SIZE]]]].pt %[|#[qv,ju]] qx]]|#[qv,ju]]
 have no:∀{H':Hp}{w:om (D×Nat)}{n:Nat},ie H H'->G w n=isT d->G w n=Vh->Q (.bl Vh) H':=λ{H' w n} sm e1 e2=>by
  have q:=k H' sm;rwa[<-e1,e2] at q
 exists 0,(sml rfl),λt1 h1=>[(sml rfl):λL hL=>?_];have s1:ie H (upd H t1 (.tup [v,.int 1])):=qi h1 _;have s2:ie H (upd (upd H t1 (.tup [v,.int 1])) L (.lst [.ref t1])):=s1.trans (qi hL _);have ak:H L=none:=s1.free hL;have i1:Is (upd H t1 (.tup [v,.int 1])) (pr (d,1)) (.ref t1):=Is.new (ds:= [d,.int 1]) ⟨v,0,hv,_,0,1,1⟩ h1
 exists Wt v d H L,⟨_,(0),[(d,1)],[.ref t1],U_,U_,U_,1,s2,qk,IsL.one (i1.mono (qi hL _).tk),SQ d,(),by simp,1⟩
 rintro m σ H' ⟨n,w,ws,x3,x4,x5,rfl,sm,hl,hw,hG,hn,ao,rfl⟩
 exists 0,!ws.isEmpty,.inl [ws:SqL.of hl:1];rcases pA w with rfl|⟨w',⟨e,j⟩,rfl⟩
 ·cases(show ws= [] from hw)
  refine iW ?_;have q:=k H' sm;rwa[<-hG,Adq hn] at q
 ·rw[RK] at*;rw[Bt] at hw;erw[hw.unsnoc,us,x,rfl,hu,hx];have ne:(!(us++ [x]).isEmpty)=true:=by simp
  rw[ne];refine lj ⟨λσ' ap=>∃m',m'<ndL ((w'++ [(e,j)]).map (·.1))/\Wt v d H L m' σ' ap,λ_ _ h=>h,?_⟩;have hm:ndL ((w'++ [(e,j)]).map (·.1))=ndL (w'.map (·.1))+nd e:=by
   rw[Bt,zS];simp[ndL]
  have au:↑w'<=40*n:=by
   rw[uq,uU] at ao;omega
  have lu:=↑hu;rw[u9] at lu
  exists 0,.inl [1:_:SqL.of hl],L,_,x,1,1,hl,PZ us x;rw[E5];have t2:Tk H' (upd H' L (.lst us)):=Tk.updL hl;have O:ie H (upd H' L (.lst us)):=λb o z=>by rw[qm (qo z ak)];exact sm b o z
  have ae:Is (upd H' L (.lst us)) (.tup [e,.int (j:Int)]) x:=hx.mono t2;have af:IsL (upd H' L (.lst us)) (w'.map pr) us:=hu.mono t2;have U:upd H' L (.lst us) L=u_ (.lst us):=qk;generalize upd H' L (.lst us)=H2 at t2 O ae af U⊢;clear t2 hl hx hu sm
  exists 0,xS (i:=0) ae rfl λy hy=>?_
  exists 0,xS (i:=1) ae rfl λy1 aq=>?_;cases(show y1= .int (j:Int) from aq)
  show mX _ _ _ _ H2;refine qC λN0 n0=>n0 _ _ ?_;exists 8,BB,bb;have ad:∀(n':Nat) (w2:om (D×Nat)) (aa:om V) (H3:Hp),ie H H3->H3 L=u_ (.lst aa)->IsL H3 (w2.map pr) aa->(j<=12->n'<=600->G w2 n'=isT d)->(12<j∨600<n'->isT d=Vh)->↑w2<=1+40*n'->ndL (w2.map (·.1))<ndL ((w'++ [(e,j)]).map (·.1))->
    BB [u_ v,u_ (V.int (n':Int)),u_ (V.ref L),u_ x,u_ y,u_ (V.int (j:Int))] H3:=by
   intro n' w2 aa H3 s3 l3 i3 g3 b3 al m3;have am:isT d=Vh->Q (.bl Vh) H3:=λe=>by
    have q:=k H3 s3;rwa[e] at q
   refine bb _ _ ?_
   exists 0,_,0,1,0;refine li (λc=>lj (am (b3 (.inl ?_)))) (λc=>⟨0,_,0,1,0,?_⟩)
   ·have:=um c;omega
   ·have c':¬(12:Int)<(j:Int):=λq=>c (A9 q);refine li (λc2=>am (b3 (.inr ?_))) (λc2=>?_)
    ·have:=um c2;omega
    ·have aw:¬(600:Int)<(n':Int):=λq=>c2 (A9 q);exact⟨_,m3,n',w2,aa,_,_,0,s3,l3,i3,g3 () (),(),al,1⟩
  exists 0,y,"tuple",tyD e,XO e,1,hy.ty,JS e,0;cases e with
  |tup xs=>
   refine lj ?_;erw[hy,a0,vs,rfl,ac,ag];have lv:=↑ag
   exists 0,_,↑vs,1,.inr [vs:SqT.of ac:1],_,0,1,0;refine li (λc=>?_) (λc=>?_)
   ·have c':(↑vs:Int)<=40:=um c
    exists 0,_,0,1
    exists 0,.inl [1:_:SqL.of U],0,a0,vs,1,SqT.of ac,λax A0 ah=>?_;refine Ao (tl:= [u_ (.int (j:Int))]) (λZ=> .tup [Z,.int ((j+1:Nat):Int)]) ac ag (mt ()) ah (λZ x0 H3 R _ s3 i3 r=>?_) λH3 ys s3 l3 i3=>?_
    ·exists 0,0,_,0,1,(sml rfl),λp hp=>?_;exact r _ _ (qi hp _) (Is.new (ds:= [Z,.int ((j+1:Nat):Int)]) ⟨x0,0,i3,_,0,1,1⟩ hp)
    ·have ly:=↑i3;rw[u9] at ly;have eA:A0≠L:=λz=>by rw[z,U] at ah;cases ah
     exists L,A0,us,ys,1,1,s3 _ _ U,l3,mt ()
     have t4:Tk H3 (upd H3 L (.lst (us++ys))):=Tk.updL (s3 _ _ U);have em:(w'++xs.map λZ=>(Z,j+1)).map pr=w'.map pr++xs.map λZ=> .tup [Z,.int ((j+1:Nat):Int)]:=by
      rw[uh,uN];rfl
     have ef:(w'++xs.map λZ=>(Z,j+1)).map (·.1)=w'.map (·.1)++xs:=by
      rw[uh,uN]
      congr 1
      exact Hr xs
     refine ad (n+1) (w'++xs.map λZ=>(Z,j+1)) (us++ys) _ (λb o z=>by rw[qm (qo z ak)];exact s3 b o (O b o z)) qk (by rw[em];exact((af.mono s3.tk).mono t4).append (i3.mono t4)) (λh1 h2=>?_) (λh=>?_) ?_ ?_
     ·rw[<-hG,Ado () h1]
     ·rw[<-hG];rcases h with h|h
      ·exact Nu h
      ·exact AbZ h
     ·rw[uq,u9];omega
     ·rw[ef,hm,zS];simp![nd];omega
   ·have c':¬(↑vs:Int)<=40:=λq=>c (A9 q)
    exists 0,_,.tup xs,1,(show Is _ (.tup xs) (.ref a0) from⟨a0,vs,1,ac,ag⟩),0
    refine iW ?_;refine no O hG (SR ?_);simp![iO];rw[ub ()]
    rfl
  |str z=>
   refine iW ?_;erw[hy,rfl,hz]
   exists 0,_,.str z,1,[1:hz],0;cases ht:Qz z with
   |false=>
    have e1:LT (.str z)=false:=ht;rw[e1];refine iW ?_;refine no O hG (SR ?_);simp![iO];exact ht
   |true=>
    have e1:LT (.str z)=true:=ht;rw[e1];refine lj ?_
    exists 0,0,_,↑z,1,[hz:1],_,0,1,_,0,1;have en:(n:Int)+(1+(↑z:Int))=((n+(1+↑z):Nat):Int):=by omega
    show BB [u_ v,u_ (V.int ((n:Int)+(1+(↑z:Int)))),u_ (V.ref L),u_ x,u_ (V.str z),u_ (V.int (j:Int))] _;rw[en];refine ad (n+(1+↑z)) w' us _ O U af (λh1 h2=>?_) (λh=>?_) () (by rw[hm];simp![nd];omega)
    ·rw[<-hG,Adp ht h1]
    ·rw[<-hG];rcases h with h|h
     ·exact Nu h
     ·refine Ab0 ?_;simp![sz];omega
  |_=>
   refine iW ?_
   exact⟨0,_,0,hy,0,iW (no O hG (SR rfl))⟩
nonrec def LET:Str:="abcdefghijklmnopqrstuvwxyz"
nonrec def NSG:Str:="abcdefghijklmnopqrstuvwxyz0123456789./"
nonrec def nm (z:Str):Bool:=decide (1<=(↑z:Int))&&decide ((↑z:Int)<=24)&&inS ⟨#[z.cps.getD 0 0]⟩ LET&&(z.cps.toList.map λc=>inS ⟨#[c]⟩ NSG).all id
nonrec def mK:D->Bool
 | .str z=>nm z
 |_=>Vh
inductive NY:Sp
 |mk (v:_)(d:_)(_:vs= [v])(_:Is H d v)(_:∀H',ie H H'->Q (.bl (mK d)) H')
def BM (h:1<=↑z):atI z.cps.toList 0=u_ (z.cps.getD 0 0):=by
 have h':0<z.cps.size:=h;have q:z.cps.toList[0]? =u_ (z.cps.getD 0 0):=by simp[Array.getD,h']
 exact Qn q
def AbH (z:Str):(z.cps.toList.map λc=>V.bl (inS ⟨#[c]⟩ NSG))=(z.cps.toList.map λc=>inS ⟨#[c]⟩ NSG).map V.bl:=by
 rw[uN]
 rfl
def Bo (h:¬(1<=(↑z:Int)/\(↑z:Int)<=24)):nm z=false:=by
 unfold nm;by_cases h1:1<=(↑z:Int)
 ·have h2:¬(↑z:Int)<=24:=λq=>h [h1:q];rw[ub h2];simp
 ·rw[ub h1];simp
def Bp (h:inS ⟨#[z.cps.getD 0 0]⟩ LET=Vh):nm z=false:=by
 unfold nm;rw[h];simp
def Ed (h1:1<=(↑z:Int))(h2:(↑z:Int)<=24)(h:inS ⟨#[z.cps.getD 0 0]⟩ LET=v_):nm z=(z.cps.toList.map λc=>inS ⟨#[c]⟩ NSG).all id:=by
 unfold nm;rw[h,A9 h1,A9 h2];simp
def zB:#[T,1,a.f_is_name,a.d_is_name,["value"],NY]:=by
 exists 9,T.iA,Cc
 erw[h,x,d,rfl,hv,k];exists 3,%[@qK _ _ _ _ _ _ _ _ #[ZT,#[QD,#[Qo,#[qA,#[qZ,2,rfl],T.qY,uY,#v[pv 0,#[Q7,.ty "str",T.XL,UL]]]]],#[xJ,#[QD,#[Bc,12,DH,DH,ql,#[qA,JW,T.yh,uH,#v[pv 0]],#[qag,T.zJ],_]]]].pt %[|#[qv,ju]] qx,#[qK,#[qt,8,oA,#[qJ,Bz,pv 0,ql],#[AaE,4,_,T.m_LETTERS,_],#[w]],%[|#[qv,ju]],qx]|#[qv,#[qA,#[WE,1,rfl],T.z_all,Tc,#v[#[zk,["sign"],[],PU,#[MH,4,pv 0],(λ_ _ _ _ _ _=>#[qU,(0),(show Vy (["sign"]:om Str) by decide+kernel)]),(λ_ _ _ _ _ _=>#[YZ,DI,pv 0,#[AaE,4,_,T.m_NAME_SIGNS,_],#[w]])]]]]]
 exists 0,x,"str",tyD d,isStr d,1,hv.ty,jW d,0;cases hd:isStr d with
 |false=>
  refine lj (lj ?_);have:=k H (ie.refl H);have e:mK d=false:=by cases d<;>first|rfl|simp[isStr] at hd
  rwa[e] at this
 |true=>
  obtain⟨z,rfl⟩:∃z,d= .str z:=by cases d<;>simp[isStr] at hd;exact⟨0⟩
  erw[hv,rfl,U];have k:∀H',ie H H'->Q (.bl (nm z)) H':=k;refine iW ?_
  exists 0,z,1,U,_,0,1,0;have stop:nm z=Vh->Q (.bl Vh) H:=λe=>by
   have:=k H (ie.refl H);rwa[e] at this
  refine li (λZ=>?_) (λZ=>?_)
  ·have aa:1<=(↑z:Int):=um Z
   exists _,0,1,0;by_cases O:(↑z:Int)<=24
   ·rw[A9 O];refine iW ?_
    exists 0,_,_,0,1,U,BM (),_,0,1,0
    cases e:inS ⟨#[z.cps.getD 0 0]⟩ LET with
    |false=>
     have e':(!(G_ ("abcdefghijklmnopqrstuvwxyz":Str) ⟨#[z.cps.getD 0 0]⟩ 0 ("abcdefghijklmnopqrstuvwxyz":Str).length 1).isEmpty)=false:=e;rw[e'];refine lj ?_;exact stop (Bp e)
    |true=>
     have e':(!(G_ ("abcdefghijklmnopqrstuvwxyz":Str) ⟨#[z.cps.getD 0 0]⟩ 0 ("abcdefghijklmnopqrstuvwxyz":Str).length 1).isEmpty)=true:=e;rw[e'];refine iW ?_
     exists 0,z,1,λD hD=>?_;refine Aa6 (λc=> .bl (inS ⟨#[c]⟩ NSG)) (U) hD (λi c H' R hc sm r=>⟨0,_,0,1,r⟩) λH' sm hl=>?_
     exists D,z.cps.toList.map λc=>inS ⟨#[c]⟩ NSG,1,SqL.of (by rw[hl,AbH])
     have:=k H' sm;rwa[Ed aa O e] at this
   ·rw[ub O];refine lj ?_;exact stop (Bo λq=>O q.2)
  ·exists 0;refine lj ?_;exact stop (Bo λq=>Z (A9 q.1))
end
nonrec def SW:oq Pt->D
 |none=> .non
 |some p=>p.d
inductive NU:Sp
 |mk (n:Nat)(kd:Kd)(z:Str)(_:vs= [.str kd.t,.str z,.int (n:Int)])(_:n<=40)(_:↑z<=300)(_:∀(v:V)(H':Hp),ie H H'->Is H' (SW (Ym n kd z)) v->Q v H')
inductive Db (K:PySem.W.Frag):Sp
 |mk (z:Str)(ks:List Kd)(q:Addr)(_:vs= [.str z,.ref q])(_:↑z<=300)(_:↑ks<=3)(_:SqT K H q (ks.map λk=>V.str k.t))(_:∀p,H p=U_->Q (.ref p) (upd H p (.lst ((pcs ks z).map V.str))))
def QB {c:Bool}{A B:Prop}(h:c=Vh)(b:B):if c=v_ then A else B:=by rw[A4 (by rw[h];exact ua)];exact b
def QR {c:Bool}{A B:Prop}(h:c=v_)(a:A):if c=v_ then A else B:=by rw[A6 h];exact a
def zE (ks:om Kd):(ks.map λk=>V.str k.t)=(ks.map Kd.t).map V.str:=by rw[uN];rfl
def IH (ks:om Kd):inV (.str "words") (ks.map λk=>V.str k.t)=decide (Kd.words∈ks):=by
 rw[zE,JT,uZ,Ag];constructor
 ·rintro⟨k,O,e⟩;cases k with
  |words=>exact O
  |box=>exact Aa e ()
  |line=>exact Aa e ()
 ·intro h;exact[_:h:1]
def BK:∀x∈FRM,↑x.2<=3:=by decide+kernel
def Kx (h:z∉BX):Ym n .box z=none:=by
 unfold Ym;exact A4 h
def zt (h:z∈BX):Ym n .box z=u_ (.s z):=by
 unfold Ym;exact A6 h
def WV (h:z∉(Vn n).map λi:Nat=>(Vs (1+(i:Int)):Str)):Ym n .line z=none:=by
 unfold Ym;rw[tM,Uz];intro i hi e;exact h (Ag.mpr [i:hi:um e])
def xN (h:z∈(Vn n).map λi:Nat=>(Vs (1+(i:Int)):Str)):∃j:Int,1<=j/\j<=n/\z=(Pt.n j).t/\Ym n .line z=u_ (.n j):=by
 erw[Ag.mp h,i,hi,e];unfold Ym;cases O:(Vn n).find? λi:Nat=>decide ((Vs (1+(i:Int)):Str)=z) with
 |none=>exact Aa (A9 e) (List.find?_eq_none.mp O i hi)
 |some j=>
  have h1:=HG O;have h2:=List.mem_range.mp (Ub O);exact⟨1+(j:Int),(),(),(um h1).symm,by show Fn _ _=_;rw[O];rfl⟩
section
variable {P:og}{w:oh}{K:o0}{mg:Str->oq o7}{base:o9}{a:Ad}{g:Ga}
def O3:#[C,1,a.f_part_of,a.d_part_of,["kind","piece","count"],NU]:=by
 exists 9,T.nc,ku
 erw[h,n,kd,z,rfl,hn,hz,k];exists 3,%[#[qK,#[qt,Qk,pv 0,qp],%[|#[qv,pv 1]],qx],#[qK,#[qt,Qk,pv 0,qp],%[|#[qv,#[ym,#[qt,8,QU,pv 1,#[pe_gR,C.m_BOXES],#[w]],pv 1,Qe]]],qx],#[Z7,2,["number"],(1),[],(3),12,ku.nd,rfl,G9 rfl,PU,rfl,#[ou,7,_,T.Y3,#v[ql,#[qS,yf,pv 2,ql]],_,_],(λ_ _ _ _ _ _=>#[qU,(0),(show Vy (["number"]:om Str) by decide+kernel)]),(λ_ _ _ _ _ _=> @yp _),(λ_ _ _ _ _ _=>#[qR,Yi,T.XL,UL,#v[pv 0]]),_,_,_]|#[qv,#[ym,#[qt,8,QU,pv 1,pv 3,#[w]],#[qR,Ir,T.z_int,boot_int,#v[pv 1]],Qe]]]
 exists 0,1,0;cases kd with
 |words=>
  refine QR () [0:?_]
  exact k _ H (ie.refl _) [1:Q6 ()]
 |box=>
  refine QB () ⟨0,1,0,?_⟩
  refine QR () ⟨0,g.boxes,0,.inr (C.boxes _),1,wG _,0,?_⟩
  rw[A4 ua,JT];refine li (λc=>?_) (λc=>?_)
  ·have U:z∈BX:=um c;rw[zt U] at k;exact[0:k _ H (ie.refl _) [1:Q6 ()]]
  ·have U:z∉BX:=λq=>c (A9 q);rw[Kx U] at k;exact k _ H (ie.refl _) rfl
 |line=>
  refine QB () ⟨0,1,0,?_⟩
  refine QB () ?_
  exists 0,_,0,1,(1),(n:Int)+1,1,⟨(),(),(),()⟩,λL hL=>?_
  rw[show((n:Int)+1-1).toNat=n by omega]
  refine jP (lo:=1) (tl:= []) (λi ys H'=>ys=(Vn i).map (λi:Nat=>V.str (Vs (1+(i:Int))))/\ie H H') (mt ()) [1:qi hL _] ?_ ?_
  ·rintro i ys H' hi ⟨rfl,sm⟩ O Z R hR
   exists 0,0,?_,hR _ _ O [?_:?_]
   ·have h1:(1+(i:Int)).natAbs<=41:=by omega
    have h2:=UR (1+(i:Int)).natAbs;omega
   ·rw[Uf,uh]
    rfl
   ·intro b o e;rw[qm (qo e hL)];exact sm b o e
  ·rintro ys H' ⟨rfl,sm⟩ O;have Z:(Vn n).map (λi:Nat=>V.str (Vs (1+(i:Int))))=((Vn n).map λi:Nat=>(Vs (1+(i:Int)):Str)).map V.str:=by rw[uN];rfl
   exists 5
   refine⟨0,0,L,0,.inl (SqL.of O),1,by rw[Z];exact wG _,0,?_⟩
   rw[A4 ua,Z,JT];refine li (λc=>?_) (λc=>?_)
   ·erw[xN (um c),j,j1,j2,rfl,ej];rw[ej] at k;have hj:=oH j1 ()
    exact⟨0,_,j,1,KG j1 (),uL hj.1 (),k _ _ sm rfl⟩
   ·rw[WV λq=>c (A9 q)] at k;exact k _ _ sm rfl
def DX:#[T,1,a.Wh,a.WC,["line","form"],(Db K)]:=by
 exists 9,T.mL,nP,Z
 erw[h,z,ks,q,rfl,hz,hk,U,k];exists 3,%[#[qK,#[qt,8,QU,qp,pv 1,#[w]],%[|#[qv,#[Y4,uV,Uv,Uw,Ei,pv 0,#v[qp,#[qA,qL,T.yh,uH,#v[pv 1]]]]]],qx]|#[qv,#[Y4,uV,Uv,Uw,Br,pv 0,#v[qp]]]]
 exists 5
 refine⟨0,q,0,.inr U,1,by rw[zE];exact wG _,0,?_⟩
 rw[A4 ua,IH];unfold pcs at k;refine li (λc=>?_) (λc=>?_)
 ·have O:Kd.words∈ks:=um c;rw[A6 O] at k;have h0:0<↑ks:=List.length_pos_iff.mpr λe=>by rw[e] at O;simp at O
  exact⟨0,1,0,q,0,.inr U,_,↑ks,1,by rw[u9],(),h0,(),k⟩
 ·have O:Kd.words∉ks:=λz=>c (A9 z);rw[A4 O] at k;exact⟨0,1,0,1,(),k⟩
nonrec def AdC:oq Rw->D
 |none=> .non
 |some r=>rowD r
nonrec def Qv (n:Nat):D->oq Rw
 | .str z=>WJ n z
 |_=>U_
inductive C8:Sp
 |mk (v:V)(d:D)(n:Nat)(_:vs= [v,.int (n:Int)])(_:Is H d v)(_:n<=40)(_:∀(v':V)(H':Hp),ie H H'->Is H' (AdC (Qv n d)) v'->Q v' H')
def Ce:∀{d:D},LT d=Vh->Qv n d=U_
 | .str z,h=>by
  show WJ n z=U_;unfold WJ;exact A4 (by rw[show Qz z=Vh from h];exact ua)
 | .non,_=>rfl
 | .int _,_=>rfl
 | .bl _,_=>rfl
 | .lst,_=>rfl
 | .dct,_=>rfl
 | .tup _,_=>rfl
def NB:∀{d:D},LT d=v_->∃z,d= .str z
 | .str z,_=>[z:1]
nonrec def Ji (n:Nat)(ks:om Kd)(zs:om Str):om (oq Pt):=List.zipWith (Ym n) ks zs
def kO {n:Nat}:∀{ks:om Kd}{zs:om Str},(Ji n ks zs).any GV=v_->Yn n ks zs=U_
 | [],_,h=>by simp[Ji] at h
 |_::_,[],h=>by simp[Ji] at h
 |k::ks,z::zs,h=>by
  rw[Ji,tH,UH,HB] at h;unfold Yn;rcases h with h|h
  ·rw[Option.isNone_iff_eq_none.mp h]
  ·rw[kO h];split
   ·rename_i h1 h2;cases h2
   ·rfl
def W8 {n:Nat}:∀{ks:om Kd}{zs:om Str},↑zs=↑ks->(Ji n ks zs).any GV=Vh->∃ps,Yn n ks zs=u_ ps/\Ji n ks zs=ps.map u_
 | [],[],_,_=>[[]:1:1]
 | [],_::_,hl,_=>by simp at hl
 |_::_,[],hl,_=>by simp at hl
 |k::ks,z::zs,hl,h=>by
  rw[Ji,tH,UH,Tw] at h;obtain⟨ps,O,U⟩:=W8 (ks:=ks) (zs:=zs) (by simpa using hl) h.2
  cases e:Ym n k z with
  |none=>rw[e] at h;cases h.1
  |some p=>
   exists p::ps,?_,?_
   ·unfold Yn;rw[e,O]
   ·rw[Ji,tH,e,ur]
    congr 1
def Mn {H:Hp}:∀{os:om (oq Pt)}{vs:om V},L2.IsL H (os.map SW) vs->vs.all ZP=v_/\inV .non vs=os.any GV
 | [],_,h=>by cases(show _= [] from h);exact[1:1]
 |q::ps,_,h=>by
  erw[h,v,r,rfl,h1,h2];erw[Mn h2,U,Z];have O:ZP v=v_/\eqV v .non=q.isNone:=by
   cases q with
   |none=>cases(show v= .non from h1);exact[1:1]
   |some q=>
    cases q with
    |s z=>erw[h1,rfl,_];exact[1:1]
    |n i=>cases(show v= .int i from h1);exact[1:1]
  exists ?_,?_
  ·rw[vx,O.1,U];rfl
  ·show(eqV v .non||inV .non r)=_
   rw[O.2,Z];rfl
def Dq {α:Type}(l:om α)(h:α->D)(f:Nat->D)(O:∀i q,l[i]? =u_ q->f i=h q):(Vn ↑l).map f=l.map h:=by
 apply List.ext_getElem
 ·simp
 ·intro i h1 h2;simp![u9,F0] at h1;simp![List.getElem_map,List.getElem_range];exact O i l[i] (uf h1)
def DS:#[C,2,a.f_row_of,a.d_row_of,["line","count"],C8]:=by
 have WF:=#[kg,T];have Z:=#[O3,T,C];have O:=#[DX,T];refine T.oY.F.ok JR () (λ_ _ _ _ H vs Q E hr h=>?_)
 erw[h,v,d,n,rfl,hv,hn,k];exists 3,%[#[qK,#[QD,#[Qo,#[qy,WF,T.mI,#v[pv 0]]]],%[|#[qv,Qe]],qx],#[qD,(2),JR.nd,#[qJ,qI,#[Y4,uV,PySem.F.slot_str_partition,PySem.F.type_str_partition,PN,pv 0,#v[qp]],ql]],#[qK,#[qt,8,OP,pv 2,#[pe_gR,C.m_FORMS],#[w]],%[|#[qv,Qe]],qx],#[qD,(3),JR.nd,#[qJ,AdE,#[pe_gR,C.m_FORMS],pv 2]],#[qD,(4),JR.nd,#[qy,O,T.mL,#v[pv 0,pv 3]]],#[qK,#[qt,OR,#[qA,qL,T.yh,uH,#v[pv 4]],#[qS,yf,ql,#[qA,qL,T.yh,uH,#v[pv 3]]]],%[|#[qv,Qe]],qx],#[qD,(5),JR.nd,#[qR,qP,T.Qr,vc,#v[#[zk,2,["kind","piece","count"],(2),[1],9,En (qq Z0) ["line","count","word","form","pieces","parts"],rfl,#[AaB,9,_,T.z_zip,#v[pv 3,#[Yc,xT,pv 4,#[YT,ql],jl]],_,_],(λ_ _ _ _ _ _=>#[ON,1,K,3,(2),1,rfl,rfl,YD #[qU,(0),(show Vy (["kind","piece","count"]:om Str) by decide+kernel)] (YD #[qU,(1),(show Vy (["kind","piece","count"]:om Str) by decide+kernel)] Kl),_,_]),(λ_ _ _ _ _ _=> @yp _),(λ_ _ _ _ _ _=>#[qy,Z,T.nc,#v[pv 0,pv 1,pv 2]]),_]]]]|#[qv,#[ym,#[qt,8,QU,Qe,pv 5,#[w]],Qe,#[qB,#v[pv 2,pv 5]]]]]
 exists 0,v,d,1,hv,0;cases e0:LT d with
 |false=>
  rw[Ce e0] at k;exact QR rfl (k _ H (ie.refl _) rfl)
 |true=>
 erw[NB e0,z,rfl];erw[hv,rfl,aq];have ht:Qz z=true:=e0;have hz:↑z<=300:=by
  have U:=ht;unfold Qz at U;rw[uu,uR] at U;exact U.1
 have k:∀(v':V) (H':Hp),ie H H'->Is H' (AdC (WJ n z)) v'->Q v' H':=k;refine QB rfl ?_
 exists 0,1,0,1,(),λt1 x1 x2 g1=>?_
 exists t1,_,(0),0,1,SqT.of qk,1;have s1:ie H (upd H t1 (.tup [.str (hd z),.str x1,.str x2])):=qi g1 _;generalize upd H t1 (.tup [.str (hd z),.str x1,.str x2])=H1 at s1⊢;unfold WJ at k;rw[A6 ht] at k;cases ef:xH (hd z) with
 |none=>
  rw[ef] at k
  exact⟨0,hd z,g.forms,0,1,C.kd,C.none_ _ ef,0,QR rfl (k _ _ s1 rfl)⟩
 |some ks=>
 have hk:=Ze ef;rw[ef] at k;simp only at k;erw[C.forms _ hk,q,ag,aa];have hf:↑ks<=3:=BK _ hk
 exists 0,hd z,g.forms,0,1,C.kd,ag,0;refine QB rfl ?_
 exists 0,hd z,g.forms,_,.ref q,1,1,C.kd,ag,1
 exists 0,0,z,ks,q,1,hz,hf,aa _,λp2 g2=>?_;have s2:ie H1 (upd H1 p2 (.lst ((pcs ks z).map V.str))):=qi g2 _;have e2:(upd H1 p2 (.lst ((pcs ks z).map V.str))) p2=u_ (.lst ((pcs ks z).map V.str)):=qk;generalize upd H1 p2 (.lst ((pcs ks z).map V.str))=H2 at s2 e2⊢
 exists 0,p2,0,.inl (SqL.of e2),0,q,0,.inr (aa _),_,0,1,1,0;by_cases hl:↑(pcs ks z)=1+↑ks
 case neg=>
  rw[A4 hl] at k;refine QR ?_ (k _ _ (s1.trans s2) rfl);rw[u9,u9];show(!decide (V.int _=V.int _))=v_;rw[ub]
  ·rfl
  ·intro q;have:(↑(pcs ks z):Int)=1+(↑ks:Int):=V.int.inj q;omega
 rw[A6 hl] at k;refine QB ?_ ?_
 ·rw[u9,u9,show(↑(pcs ks z):Int)=1+(↑ks:Int) by omega]
  simp
 have ae:↑((pcs ks z).drop 1)=↑ks:=by rw[vG];omega
 have ah:∀p∈(pcs ks z).drop 1,↑p<=300:=λp hp=>by
  have U:=ht;unfold Qz at U;rw[uu,uR] at U;exact(Mu U.1 U.2 p (vX hp)).1
 exists 0,0,0,p2,0,SqL.of e2,λp3 g3=>?_;have ak:sN ((pcs ks z).map V.str) (u_ 1) U_=((pcs ks z).drop 1).map V.str:=by
  rw[show(u_ (1:Int))=u_ (((1:Nat)):Int) from rfl,JU (by rw[u9];omega),Ht]
 rw[ak];generalize (pcs ks z).drop 1=zs at ae ah k⊢;have s3:ie H2 (upd H2 p3 (.lst (zs.map V.str))):=qi g3 _;have e3:(upd H2 p3 (.lst (zs.map V.str))) p3=u_ (.lst (zs.map V.str)):=qk;generalize upd H2 p3 (.lst (zs.map V.str))=H3 at s3 e3⊢;have am:↑(Ji n ks zs)=↑ks:=by rw[Ji,List.length_zipWith];omega
 exists q,p3,_,0,aa _,SqL.of e3,λA1 gA=>?_;refine Aa5 (K:=K) (tl:= [u_ (.int (n:Int))]) (xs:=ks.map λk:Kd=>V.str k.t) (ys:=zs.map V.str) (λi=>SW ((Ji n ks zs).getD i U_)) (λH' _=>aa H') (λH' sm=>SqL.of (sm _ _ e3)) (by simp[ae]) (by rw[u9];exact Q6 ()) gA ?_ ?_
 ·intro i x y H4 R hx hy s4 hR;rw[uD] at hx hy;cases af:ks[i]? with
  |none=>rw[af] at hx;cases hx
  |some kd=>
   rw[af] at hx;cases hx;cases ac:zs[i]? with
   |none=>rw[ac] at hy;cases hy
   |some z1=>
    rw[ac] at hy;cases hy
    exists 0,0,0,n,kd,z1,1,hn,ah _ (uK ac),λv H5 s5 hv=>hR v H5 s5 ?_;have e:(Ji n ks zs).getD i U_=Ym n kd z1:=by simp[VY,Ji,List.getElem?_zipWith,af,ac]
    simp![e];exact hv
 intro H5 vs s5 e5 h5;have al:L2.IsL H5 ((Ji n ks zs).map SW) vs:=by
  rw[u9,<-am] at h5;rw[Dq (Ji n ks zs) SW _ (λi q1 hi=>by simp[VY,hi])] at h5
  exact h5
 exists A1,vs,1,.inl [SqL.of e5:λt6 g6=>?_];have s6:ie H5 (upd H5 t6 (.tup vs)):=qi g6 _;have i6:Is (upd H5 t6 (.tup vs)) (.tup ((Ji n ks zs).map SW)) (.ref t6):=Is.new al g6;have e6:(upd H5 t6 (.tup vs)) t6=u_ (.tup vs):=qk;generalize upd H5 t6 (.tup vs)=H6 at s6 i6 e6⊢;erw[Mn al,f1,f2];have ad:=s1.trans (s2.trans (s3.trans (s5.trans s6)))
 exists 0,t6,vs,1,.inr (SqT.of e6),1,f1,0;rw[A4 ua,f2];refine li (λc=>?_) (λc=>?_)
 ·rw[kO c] at k;exact k _ _ ad rfl
 ·have c':(Ji n ks zs).any GV=false:=by
   cases h:(Ji n ks zs).any GV with
   |false=>rfl
   |true=>exact Aa h c
  erw[W8 ae c',ps,q1,q2];rw[q1] at k;rw[q2,uN] at i6
  exists 0,0,(sml rfl),λt7 g7=>?_;have ao:↑(hd z)<=sizeLine:=by
   have ap:∀x∈FRM,↑x.1<=100:=by decide+kernel
   have:=ap _ hk;exact Q6 (by simp only at this;omega)
  exact k _ _ (ad.trans (qi g7 _)) (Is.new (ds:= [.str (hd z),.tup (ps.map Pt.d)]) ⟨_,0,[1:ao],_,0,i6,1⟩ g7)
def Dz {M:Nat}(hn:n<=40){k:Kd}{p:Pt}(h:Aaz n M k p):Ym n k p.t=u_ p:=by
 cases k with
 |words=>
  cases p with
  |s z=>rfl
  |n i=>cases h
 |box=>
  cases p with
  |s z=>exact zt h
  |n i=>cases h
 |line=>
  cases p with
  |s z=>cases h
  |n i=>
   have h1:1<=i/\i<=n:=h;have hm:(Pt.n i).t∈(Vn n).map λi:Nat=>(Vs (1+(i:Int)):Str):=Ag.mpr ⟨(i-1).toNat,List.mem_range.mpr (),by show(Vs (1+(((i-1).toNat:Nat):Int)):Str)=Vs i;rw[show 1+(((i-1).toNat:Nat):Int)=i by omega]⟩
   erw[xN hm,j,U,j2,Z,e];rw[e];have b1:=KG (i:=i) h1.1 ()
   have b2:=KG (i:=j) U ()
   have O:(Vs i:Str)=Vs j:=Z;rw[O,b2] at b1;rw[uF b1]
def Kb {n M:Nat}(hn:n<=40):∀{ks:om Kd}{ps:om Pt},xU n M ks ps->Yn n ks (ps.map Pt.t)=u_ ps
 | [],[],_=>rfl
 |k::ks,p::ps,h=>by
  rw[ur];unfold Yn;rw[Dz hn h.1,Kb hn h.2]
 | [],_::_,h=>h.elim
 |_::_,[],h=>h.elim
variable {ks:om Kd}
def ET {w:Str}(h:(w,ks)∈FRM):xH w=u_ ks:=by
 cases e:xH w with
 |none=>exact Aa rfl (wQ e _ h)
 |some O=>
  have:=ES _ (Ze e) _ h rfl;rw[(Prod.mk.inj this).2]
variable {r:Rw}
def Cd {M:Nat}(hn:n<=40)(h:Jj n M r)(Z:Qz (Yk r)=v_):WJ n (Yk r)=u_ r:=by
 have hh:=PR h;erw[h,ks,U,O];unfold WJ;rw[A6 Z,hh,ET U];simp only;have hs:pcs ks (Yk r)=txs r:=LP hn U O;have hl:=Zx O;rw[hs,A6 (by unfold txs;rw[uj,u9];omega)]
 show Fn _ (Yn n ks (r.2.map Pt.t))=_;rw[Kb hn O]
 rfl
nonrec def Jr (rs:om Rw):D:= .tup (rs.map λr=> .str (Yk r))
structure yj (rs:om Rw):Prop where
 n0:1<=↑rs
 n1:↑rs<=40
 ok:∀r∈rs,Jj ↑rs 300 r
 tree:isT (Jr rs)=v_
def oW:∀{ds:om D}{d:D},goodL ds=v_->d∈ds->iO d=v_
 |x::xs,d,h,hm=>by
  simp![goodL,uu] at h;rcases Ac.mp hm with rfl|hm
  ·exact h.1
  ·exact oW h.2 hm
variable {rs:om Rw}
def yj.text (h:yj rs)(O:r∈rs):Qz (Yk r)=true:=by
 have h1:=h.tree;unfold isT at h1;rw[uu,uu] at h1;have h2:=h1.1.1;unfold Jr at h2;simp![iO,uu] at h2;have:=oW h2.2 (Ag.mpr [r:O:1])
 simpa only [iO] using this
nonrec def ya:D->oq (om Rw)
 | .tup ds=>if(decide (1<=↑ds)&&decide (↑ds<=40)&&ds.all (λd=>(Qv ↑ds d).isSome)&&isT (.tup ds))=v_ then u_ (ds.filterMap (Qv ↑ds)) else U_
 |_=>U_
def XZ (ds:om D):ya (.tup ds)=if(decide (1<=↑ds)&&decide (↑ds<=40)&&ds.all (λd=>(Qv ↑ds d).isSome)&&isT (.tup ds))=v_ then u_ (ds.filterMap (Qv ↑ds)) else none:=rfl
def nV {n:Nat}:∀{rs:om Rw},(∀r∈rs,Qv n (.str (Yk r))=u_ r)->(rs.map λr=>D.str (Yk r)).filterMap (Qv n)=rs
 | [],_=>rfl
 |r::rs,h=>by
  rw[ur,Ui (h r ue),nV λx O=>h x (uc _ O)]
def yj.rowD (h:yj rs)(O:r∈rs):Qv ↑rs (.str (Yk r))=u_ r:=Cd h.n1 (h.ok r O) (h.text O)
def yj.read (h:yj rs):ya (Jr rs)=u_ rs:=by
 have Z:↑(rs.map λr=>D.str (Yk r))=↑rs:=u9 ..;have U:=h.tree;unfold Jr at U⊢;rw[XZ,Z,A6]
 ·rw[nV λr O=>h.rowD O]
 ·rw[A9 h.n0,A9 h.n1,U,List.all_eq_true.mpr]
  ·rfl
  ·intro d hd;erw[Ag.mp hd,r,O,rfl];rw[h.rowD O]
   rfl
nonrec def AdJ (d x y:D):Prop:=(∀rs,ya d=u_ rs->x= .tup (rs.map L2.rowD)/\y= .non)/\(ya d=U_->∃i:Int,y= .int i)
inductive NS:Sp
 |mk (v:V)(d:D)(_:vs= [v])(_:Is H d v)(_:∀(u:V)(H':Hp)(x y:D),ie H H'->AdJ d x y->Is H' (.tup [x,y]) u->Q u H')
def Dp {d x:D}{i:Int}(h:ya d=U_):AdJ d x (.int i):=⟨λrs e=>(by rw[h] at e;cases e),λ_=>[i:1]⟩
def XM {α:Type}{o:oq α}(h:o.isSome=v_):∃x,o=u_ x:=by cases o with
 |none=>cases h
 |some x=>exact[x:1]
variable {ds:om D}
def Dl {d:D}(h1:ds[i]? =u_ d)(h2:Qv n d=u_ r):(ds.take (i+1)).filterMap (Qv n)=(ds.take i).filterMap (Qv n)++ [r]:=by
 rw[vb,h1,List.filterMap_append];simp[h2]
def AU {n:Nat}:∀{ds:om D},(∀z∈ds,(Qv n z).isSome=v_)->↑(ds.filterMap (Qv n))=↑ds
 | [],_=>rfl
 |z::ds,h=>by
  erw[XM (h z ue),r,e];rw[Ui e,uj,uj];exact Ab (·+1) (AU λy O=>h y (uc _ O))
def DV:#[C,3,a.Zw,a.Zr,["value"],NS]:=by
 have yJ:=#[jG,T];have aa:=#[DS,T,C];refine T.lQ.F.ok YE () (λ_ _ _ _ H vs Q E hr h=>?_)
 erw[h,v,d,rfl,hv,k];exists 3,%[@qK _ _ _ _ _ _ _ _ #[ZT,#[QD,#[Qo,#[qA,#[qZ,2,rfl],T.qY,uY,#v[pv 0,#[Q7,.ty "tuple",T.Qr,vc]]]]],#[xJ,#[QD,#[Bc,12,DH,DH,ql,#[qA,qL,T.yh,uH,#v[pv 0]],#[qag,T.m_MOST_LINES],_]]]].pt %[|#[qv,#[qB,#v[#[qB,qh],ql]]]] qx,#[qD,(1),YE.nd,#[QA,qh]],#[Yh,#[pi_tup,pv 0],#[qU,(2),YE.nd],%[#[qD,(3),YE.nd,#[qy,aa,T.oY,#v[pv 2,#[qA,qL,T.yh,uH,#v[pv 0]]]]],#[qK,#[qt,YA,pv 3,Qe],%[|#[qv,#[qB,#v[#[qR,qP,T.Qr,vc,#v[pv 1]],#[qS,yf,#[qA,qL,T.yh,uH,#v[pv 1]],ql]]]]],qx]|#[Qd,#[Y4,uJ,vh,vi,yF,pv 1,#v[pv 3]]]]]|#[qv,#[qB,#v[#[qR,qP,T.Qr,vc,#v[pv 1]],#[ym,#[Qo,#[qy,yJ,T.iD,#v[pv 0]]],Qe,ql]]]]]
 exists 0,v,"tuple",_,XO d,1,hv.ty,JS d,0;have U:ya d=U_->∀(t:o6),H t=U_->∀t2,(upd H t (.tup [])) t2=U_->Q (.ref t2) (upd (upd H t (.tup [])) t2 (.tup [.ref t,.int 1])):=λhn t g t2 Z=>
  k _ _ (.tup []) (.int 1) ((qi g _).trans (qi Z _)) (Dp hn) (Is.new (ds:= [.tup [],.int 1]) ⟨_,0,Is.new (ds:= []) rfl g,_,0,1,1⟩ Z)
 cases ht:XO d with
 |false=>
  have hn:ya d=none:=by
   cases d with
   |tup ds=>cases ht
   |_=>rfl
  exact lj (lj [(sml rfl):λt g1=>[(sml rfl):λt2 Z=>U hn t g1 t2 Z]])
 |true=>
 obtain⟨ds,rfl⟩:∃ds,d= .tup ds:=by
  cases d with
  |tup ds=>exact[ds:1]
  |_=>cases ht
 refine iW ?_;have ad:=hv;erw[ad,va,us,rfl,ha,hu];have ae:↑us=↑ds:=↑hu
 exists 0,va,us,1,.inr (SqT.of ha),_,0,1,0;have no:¬(1<=↑ds/\↑ds<=40/\(∀z∈ds,(Qv ↑ds z).isSome=v_)/\isT (.tup ds)=v_)->ya (.tup ds)=none:=λhc=>by
  unfold ya;refine A4 λz=>hc ?_;simp![uu,uR,Ur] at z;exact⟨z.1.1.1,z.1.1.2,z.1.2,z.2⟩
 by_cases c1:1<=↑ds
 case neg=>
  refine QB (ub ()) [0:?_]
  exact lj [(sml rfl):λt g1=>[(sml rfl):λt2 Z=>U (no λz=>c1 z.1) t g1 t2 Z]]
 refine QR (A9 ()) ?_
 exists _,0,1,0;by_cases c2:↑ds<=40
 case neg=>
  refine QR (by rw[ub ()];rfl) ?_
  exact[(sml rfl):λt g1=>[(sml rfl):λt2 Z=>U (no λz=>c2 z.2.1) t g1 t2 Z]]
 refine QB (by rw[A9 ()];rfl) ?_
 exists (sml rfl),λL1 g1=>?_
 exists 0,va,1,[us:SqT.of (qi g1 _ _ _ ha)]
 let J1_:Nat->L2.St->Hp->Prop:=λi σ H'=>i<=↑ds/\(∀z∈ds.take i,(Qv ↑ds z).isSome=v_)/\∃(ws:om V) (x2 x3:oq V),σ= [u_ (.ref va),u_ (.ref L1),x2,x3]/\H' L1=u_ (.lst ws)/\L2.IsL H' (((ds.take i).filterMap (Qv ↑ds)).map L2.rowD) ws/\ie H H'
 refine Ww (K:=K) (a:=va) (xs:=us) J1_
  ⟨uG _,(λz hz=>by simp at hz),[],U_,U_,1,qk,1,qi g1 _⟩ (λi σ H' _ ⟨_,_,_,_,_,_,_,_,sm⟩=>SqT.of (sm _ _ ha)) ?_ ?_
 ·rintro i x σ H' hx ⟨ak,O,ws,x2,x3,rfl,e1,hw,sm⟩;have ac:i<↑ds:=by
   erw[Ai.mp hx,h,_];omega
  erw[hu.get (i:=i) (d:=ds[i]) (uf ac),x',af,al];rw[hx] at af;cases af;have am:↑ws=i:=by
   rw[↑hw,u9,AU O,vw];omega
  exists 5
  refine⟨0,0,va,us,1,.inr (SqT.of (sm _ _ ha)),x,ds[i],↑ds,by rw[ae];rfl,al.mono sm.tk,c2,λv H2 s2 hv=>?_⟩
  have e2:=s2 _ _ e1;cases er:Qv ↑ds ds[i] with
  |some r=>
   rw[er] at hv;have hv:Is H2 (L2.rowD r) v:=hv;have ad:=hv;erw[ad,ag,ao,rfl,_,_]
   exists 0,1,0;refine QB (ub λz=>by cases z) ?_
   exists 0,.inl [1:_:SqL.of e2],0,L1,ws,0,1,e2,XT ()
   have t3:Tk H2 (upd H2 L1 (.lst (ws++ [.ref ag]))):=Tk.updL e2
   exists ac,λz hz=>?_,ws++ [.ref ag],_,0,qk,?_,λb o e=>?_
   ·rw[vb,uf ac] at hz;rcases Af.mp hz with hz|hz
    ·exact O z hz
    ·have:z=ds[i]:=by simpa using hz
     rw[this,er]
     rfl
   ·rw[Dl (uf ac) er,uh];exact((hw.mono s2.tk).mono t3).append (IsL.one (hv.mono t3))
   ·rw[qm (qo e g1)];exact s2 b o (sm b o e)
  |none=>
   rw[er] at hv;cases(show v= .non from hv)
   exists 0,1,0;refine QR rfl ?_
   exists 0,L1,ws,1,.inl [SqL.of e2:λt1 Z=>?_];have s3:ie H2 (upd H2 t1 (.tup ws)):=qi Z _;have i3:Is (upd H2 t1 (.tup ws)) (.tup (((ds.take i).filterMap (Qv ↑ds)).map L2.rowD)) (.ref t1):=Is.new (hw.mono s2.tk) Z
   exists 0,L1,ws,1,.inl (SqL.of (s3 _ _ e2)),_,0,1,(sml rfl),λt4 g4=>?_;exact k _ _ _ (.int _) (sm.trans (s2.trans (s3.trans (qi g4 _)))) (Dp (no λz=>by have:=z.2.2.1 _ (uW ac);rw[er] at this;cases this)) (Is.new (ds:= [.tup (((ds.take i).filterMap (Qv ↑ds)).map L2.rowD),.int _]) ⟨_,0,i3,_,0,1,1⟩ g4)
 ·rintro σ H' ⟨ak,O,ws,x2,x3,rfl,e1,hw,sm⟩;rw[ae,vy] at hw O
  exists 0,L1,ws,1,.inl [SqL.of e1:λt1 Z=>?_];have s2:ie H' (upd H' t1 (.tup ws)):=qi Z _;have i2:Is (upd H' t1 (.tup ws)) (.tup ((ds.filterMap (Qv ↑ds)).map L2.rowD)) (.ref t1):=Is.new hw Z;generalize upd H' t1 (.tup ws)=H2 at s2 i2⊢
  exists 0,_,.tup ds,1,hv.mono (sm.trans s2).tk,λH3 s3=>?_
  exists 0;cases hT:isT (.tup ds) with
  |true=>
   refine QR rfl [(sml rfl):λt4 g4=>?_];have ah:ya (.tup ds)=u_ (ds.filterMap (Qv ↑ds)):=by
    rw[XZ,A6];rw[A9 c1,A9 c2,hT,List.all_eq_true.mpr O]
    rfl
   exact k _ _ _ .non (sm.trans (s2.trans (s3.trans (qi g4 _)))) ⟨λrs e=>(by rw[ah] at e;cases e;exact[1:1]),λe=>(by rw[ah] at e;cases e)⟩ (Is.new (ds:= [.tup ((ds.filterMap (Qv ↑ds)).map L2.rowD),.non]) ⟨_,0,i2.mono s3.tk,_,0,1,1⟩ g4)
  |false=>
   refine QB rfl [(sml rfl):λt4 g4=>?_];exact k _ _ _ (.int 1) (sm.trans (s2.trans (s3.trans (qi g4 _)))) (Dp (no λz=>by have:=z.2.2.2;rw[hT] at this;cases this)) (Is.new (ds:= [.tup ((ds.filterMap (Qv ↑ds)).map L2.rowD),.int 1]) ⟨_,0,i2.mono s3.tk,_,0,1,1⟩ g4)
inductive NQ (br:Addr)(vs:List V)(H:Hp)(Q:VK)(E:XK):Prop
 |mk (v:V)(d:D)(_:vs= [v])(_:Is H d v)(_:(∀rs,ya d=u_ rs->∀(u:V)(H':Hp),ie H H'->Is H' (.tup (rs.map L2.rowD)) u->Q u H'))(_:(ya d=U_->∀(e:Addr)(H':Hp),ie H H'->E (.ref e) (u_ br) H'))
def O0 (T:Tx K mg a)(C:Fx K w mg g a):FnOk P w K mg base (CX1 P w) 4 a.wA a.wZ ["tree"] (NQ g.br):=by
 have J4:=#[DV,T,C];refine T.lq.F.okX ZI () (λ_ _ _ _ H _ Q E hr h=>?_)
 erw[h,v,d,rfl,hv,k,kB];exists 3,%[#[qD,(1),ZI.nd,#[qy,J4,T.lQ,#v[pv 0]]],#[qK,#[qt,sZ,#[qJ,qI,pv 1,ql],Qe],%[|#[Bd,22,C.x_BadRule,_,C.m_BadRule,qp,_,_]],qx]|#[qv,#[qJ,qI,pv 1,ql]]]
 exists 0,v,d,1,hv,λu H1 x y s1 hd U=>?_
 exists 0
 try dsimp![tC]
 refine xS (i:=1) (d:=y) U rfl λz Z=>?_;cases O:ya d with
 |none=>
  erw[hd.2 O,i,rfl];cases(show z= .int i from Z)
  exists 1,0;refine QR (by rw[ub (λz=>by cases z)];rfl) ?_
  exact[1:λe=>kB O e H1 s1]
 |some rs=>
  erw[hd.1 rs O,rfl,rfl];cases(show z= .non from Z)
  exists 1,0;refine QB rfl ?_
  exists 0
  try dsimp![tC]
  refine xS (i:=0) (d:= .tup (rs.map L2.rowD)) U rfl λq hq=>?_;exact k rs O q H1 s1 hq
nonrec def kvB (f:Str->V):om (Key×V):=BX.map λz=>(Vj z,f z)
def SZ {f:Str->V}:∀{zs:om Str}{z:Str},z∈zs->iR (zs.map λz=>((Vj z:Key),f z)) (Vj z)=u_ (f z)
 |y::ys,z,h=>by
  rw[ur];by_cases e:y=z
  ·subst e;exact QZ rfl
  ·have h':z∈ys:=by
    rcases Ac.mp h with rfl|h
    ·exact Aa rfl e
    ·exact h
   have:=SZ (f:=f) h';unfold iR at this⊢;rw[uQ];have O:decide ((Vj y:Key)=Vj z)=false:=ub λq=>e (UB q);simp![O];exact this
def AcD {f:Str->V}{u:V}(h:z∈BX):lY (kvB f) (Vj z) u=kvB λy=>if y=z then u else f y:=by
 unfold lY;rw[A6]
 ·unfold kvB;rw[uN];refine Uo λy _=>?_;by_cases e:y=z
  ·simp[e]
  ·simp[e]
 ·rw[Tg];exact⟨(Vj z,f z),Ag.mpr [z:h:1],by simp⟩
nonrec def YC (H:Hp)(d:o6)(B:Str->D):Prop:=∃f:Str->V,H d=u_ (.dK (kvB f))/\∀z∈BX,Is H (B z) (f z)
nonrec def AR (B:Str->D)(z:Str)(e:D):Str->D:=λy=>if y=z then e else B y
variable {H H':Hp}
def YC.same {d:o6}{B:Str->D}(h:YC H d B)(s:ie H H'):YC H' d B:=let⟨f,e,i⟩:=h;[f:s _ _ e:λz O=>(i z O).mono s.tk]
def YC.move {d:o6}{B:Str->D}(h:YC H d B)(t:Tk H H')(e:H' d=H d):YC H' d B:=let⟨f,e1,i⟩:=h;[f:e.trans e1:λz O=>(i z O).mono t]
def YC.get {d:o6}{B:Str->D}(h:YC H d B)(O:z∈BX):∃v,mx H d (.str z) (u_ v)/\Is H (B z) v:=by
 erw[h,f,e,i];exists f z,?_,i z O;have:=mx.k (k:=(Vj z:Key)) e;rw[show iR (kvB f) (Vj z)=u_ (f z) from SZ O] at this
 exact this
variable {e:D}
def YC.put {d:o6}{B:Str->D}{u:V}(h:YC H d B)(U:z∈BX)(Z:Is H e u):∃kvs,BZ H d (.str z) u (upd H d (.dK kvs))/\YC (upd H d (.dK kvs)) d (AR B z e)/\Tk H (upd H d (.dK kvs)):=by
 erw[h,f,O,i];refine⟨kvB λy=>if y=z then u else f y,.inl ⟨_,Vj z,O,1,by show ↑BX<Vl;rw[uw];decide,by rw[AcD U]⟩,[_:qk:λy hy=>?_],Tk.updD O⟩
 have t:Tk H (upd H d (.dK (kvB λy=>if y=z then u else f y))):=Tk.updD O
 unfold AR;by_cases c:y=z
 ·rw[A6 c,A6 c];exact Z.mono t
 ·rw[A4 c,A4 c];exact(i y hy).mono t
nonrec def xx:om D->Bool
 | []=>v_
 | .str _::r=>xx r
 |_=>Vh
nonrec def xD:om D->om Str
 | .str z::r=>z::xD r
 |_=> []
nonrec def b0 (ps:om Pt):Str:=(ps.getD 0 (.s "")).t
nonrec def b1 (ps:om Pt):Str:=(ps.getD 1 (.s "")).t
nonrec def b2 (ps:om Pt):Str:=(ps.getD 2 (.s "")).t
nonrec def EW:D->D
 | .str z=>if ↑z=0 then .non else .str ⟨#[z.cps.getD 0 0]⟩
 | .tup (x::_)=>x
 |_=> .non
nonrec def Oz:D->D
 | .str z=>if ↑z=0 then .non else .str (gT z (u_ 1) U_)
 | .tup (_::r)=> .tup r
 |_=> .non
nonrec def Aa4:D->Nat
 | .str z=>↑z
 | .tup xs=>↑xs
 |_=>0
nonrec def AdB:D->D->D
 | .tup xs,e=> .tup (xs++ [e])
 |_,_=> .non
nonrec def Abe:D->D->D
 | .str x,.str y=> .str (x++y)
 |_,_=> .non
nonrec def AdH:D->D->D
 | .str z,.str y=>if ↑y=0 then .non else .tup ((spG z y).map .str)
 |_,_=> .non
nonrec def Abg:D->D->D
 | .tup xs,.str y=>if xx xs=v_ then .str (Vq y (xD xs)) else .non
 |_,_=> .non
nonrec def made (w:Str)(B:Str->D)(own:Str)(ps:om Pt):D:=
 if w="text" then .str (b1 ps) else if w="self" then .str own else if w="copy" then B (b1 ps) else if w="row" then .tup [] else
 if w="put" then AdB (B (b0 ps)) (B (b1 ps)) else if w="join" then Abe (B (b0 ps)) (B (b1 ps)) else if w="first" then EW (B (b1 ps)) else if w="rest" then Oz (B (b1 ps)) else
 if w="size" then .str (Vs ((Aa4 (B (b1 ps)):Nat):Int)) else if w="cut" then AdH (B (b1 ps)) (B (b2 ps)) else Abg (B (b1 ps)) (B (b2 ps))
def Q2 {m:Nat}{w:Str}{ps:om Pt}(h:Jj n m (w,ps))(O:(w,ks)∈FRM):xU n m ks ps:=by
 erw[h,U,h1,h2];have:=ES _ h1 _ O rfl;cases this;exact h2
def Acu {m:Nat}{ps:om Pt}(h:xU n m [.box] ps):∃x,ps= [.s x]/\x∈BX:=by
 match ps,h with
 | [.s x],h=>exact[x:1:h.1]
 | [.n _],h=>exact h.1.elim
def wB {m:Nat}{ps:om Pt}(h:xU n m [.box,.box] ps):∃x y,ps= [.s x,.s y]/\x∈BX/\y∈BX:=by
 match ps,h with
 | [.s x,.s y],h=>exact⟨x,y,1,h.1,h.2.1⟩
 | [.n _,_],h=>exact h.1.elim
 | [.s _,.n _],h=>exact h.2.1.elim
def Mz {m:Nat}{ps:om Pt}(h:xU n m [.box,.box,.box] ps):∃x y z,ps= [.s x,.s y,.s z]/\x∈BX/\y∈BX/\z∈BX:=by
 match ps,h with
 | [.s x,.s y,.s z],h=>exact⟨x,y,z,1,h.1,h.2.1,h.2.2.1⟩
 | [.n _,_,_],h=>exact h.1.elim
 | [.s _,.n _,_],h=>exact h.2.1.elim
 | [.s _,.s _,.n _],h=>exact h.2.2.1.elim
def Act {m:Nat}{ps:om Pt}(h:xU n m [.box,.words] ps):∃x y,ps= [.s x,.s y]/\x∈BX/\↑y<=m/\y.cps.toList.all QJ=true:=by
 match ps,h with
 | [.s x,.s y],h=>exact⟨x,y,1,h.1,h.2.1⟩
 | [.n _,_],h=>exact h.1.elim
 | [.s _,.n _],h=>exact h.2.1.elim
def Aao {m:Nat}{ps:om Pt}(h:xU n m [.box,.line] ps):∃x,∃i:Int,ps= [.s x,.n i]/\x∈BX/\1<=i/\i<=n:=by
 match ps,h with
 | [.s x,.n i],h=>exact⟨x,i,1,h.1,h.2.1⟩
 | [.n _,_],h=>exact h.1.elim
 | [.s _,.s _],h=>exact h.2.1.elim
def Aap {m:Nat}{ps:om Pt}(h:xU n m [.box,.box,.line] ps):∃x y,∃i:Int,ps= [.s x,.s y,.n i]/\x∈BX/\y∈BX/\1<=i/\i<=n:=by
 match ps,h with
 | [.s x,.s y,.n i],h=>exact⟨x,y,i,1,h.1,h.2.1,h.2.2.1⟩
 | [.n _,_,_],h=>exact h.1.elim
 | [.s _,.n _,_],h=>exact h.2.1.elim
 | [.s _,.s _,.s _],h=>exact h.2.2.1.elim
nonrec def IA (H:Hp)(t:o6)(ps:om Pt):Prop:=Is H (.tup (ps.map Pt.d)) (.ref t)
nonrec def Tr (B:Str->D):Prop:=∀z∈BX,isT (B z)=v_
inductive zj (w:Str):Sp
 |mk (d t:Addr)(own:Str)(B:Str->D)(ps:List Pt)(n:Nat)(_:vs= [.ref d,.str own,.ref t])(_:YC H d B)(_:Tr B)(_:↑own<=100)(_:Jj n 300 (w,ps))(_:IA H t ps)(_:∀(v:V)(H':Hp),ie H H'->Is H' (made w B own ps) v->Q v H')
variable {Q:VK}
def Iv {K:o0}{t:o6}{ps:om Pt}(h:IA H t ps)(e:ps[i]? =u_ (.s z))(q:Q (.str z) H):OD K (.ref t) (.int (i:Int)) H Q:=
 xS (d:= .str z) h (Qn (by rw[uD,e];rfl)) λx O=>by erw[O,rfl,_];exact q
def Ws {d:D}(h:isT d=v_):dp d<=12:=by
 unfold isT at h;rw[uu] at h;exact um h.2
def M5 {d:D}(h:isT d=v_):sz d<=600:=by
 unfold isT at h;rw[uu,uu] at h;exact um h.1.2
def jr {d:D}(h:isT d=v_):Aa4 d<=600:=by
 have h1:=M5 h;cases d with
 |str z=>simp![sz] at h1;show ↑z<=600;omega
 |tup xs=>
  unfold isT at h;rw[uu,uu] at h;have h2:=h.1.1;simp![iO,uu] at h2;have:=um h2.1;show ↑xs<=600;omega
 |_=>exact uG _
def Kz (z y:Str):↑(z++y:Str)=↑z+↑y:=by
 show(z.cps++y.cps).size=z.cps.size+y.cps.size;exact T5
def ny {K:o0}{t d:o6}{B:Str->D}{ps:om Pt}(O:YC H d B)(h:IA H t ps)(e:ps[i]? =u_ (.s z))(U:z∈BX)(q:∀v,Is H (B z) v->Q v H):OD K (.ref t) (.int (i:Int)) H (λy H2=>Nt Q (.ref d) y H2):=by
 erw[O.get U,v,Z,iv];exact Iv h e ⟨d,v,1,Z,q v iv⟩
def OW:#[T,1,a.XA,a.wM,["boxes","own","parts"],(zj "text")]:=by
 exists 9,T.ll,nJ,Z
 erw[h,d,t,own,B,ps,n,rfl,hB,hT,ho,O,U,k];exists 3,%[|#[qv,#[qJ,qI,pv 2,ql]]]
 erw[Act (Q2 O ()),x,y,rfl,hx,hy,hs]
 exact⟨0,Iv (i:=1) U rfl (k _ H (ie.refl _) ⟨1,Q6 (by show ↑y<=1000;omega)⟩)⟩
def OZ:#[T,1,a.Xx,a.Wo,["boxes","own","parts"],(zj "self")]:=by
 exists 9,T.lp,nO,U
 erw[h,d,t,own,B,ps,n,rfl,Z,hT,ho,O,hp,k];exists 3,%[|#[qv,pv 1]]
 exact⟨0,k _ H (ie.refl _) ⟨1,Q6 (by show ↑own<=1000;omega)⟩⟩
def AaO:#[T,1,a.zZ,a.W5,["boxes","own","parts"],(zj "row")]:=by
 exists 9,T.lP,sP,Z
 erw[h,d,t,own,B,ps,n,rfl,hB,hT,ho,U,hp,k];exists 3,%[|#[qv,#[qB,qh]]]
 exact[(sml rfl):λl O=>k _ _ (qi O _) (Is.new (ds:= []) rfl O)]
def Ps:#[T,1,a.Xo,a.wP,["boxes","own","parts"],(zj "copy")]:=by
 exists 9,T.lE,nS,U
 erw[h,d,t,own,B,ps,n,rfl,Z,hT,ho,O,hp,k];exists 3,%[|#[qv,#[Ql,6,Qs U,pv 0,#[qJ,qI,pv 2,ql],(λ_ _=>rfl)]]]
 erw[wB (Q2 O ()),x,y,rfl,hx,hy]
 exists 0,0;exact ny (i:=1) Z hp rfl hy λv iv=>k _ H (ie.refl _) iv
def AaP:#[T,1,a.zN,a.W4,["boxes","own","parts"],(zj "put")]:=by
 exists 9,T.lR,WH
 erw[h,d,t,own,B,ps,n,rfl,hB,hT,ho,aa,O,k];exists 3,%[#[qD,(3),WH.nd,#[Ql,#[qJ,qI,pv 2,ql]]],#[qK,#[QD,#[Qo,#[qA,#[qZ,2,rfl],T.qY,uY,#v[pv 3,#[Q7,.ty "tuple",T.Qr,vc]]]]],%[|#[qv,Qe]],qx]|#[qv,#[qS,Xg,pv 3,#[qB,#v[#[Ql,#[qJ,qI,pv 2,ql]]]]]]]
 erw[wB (Q2 aa ()),x,y,rfl,hx,hy]
 exists 0,0;refine ny (i:=0) hB O rfl hx λv iv=>?_
 exists 0,v,"tuple",tyD (B x),XO (B x),1,iv.ty,JS _,0;have U:=jr (hT x hx);have k':∀(v:V) (H':Hp),ie H H'->Is H' (AdB (B x) (B y)) v->Q v H':=k;generalize B x=dx at iv k' U⊢;cases dx with
 |tup xs=>
  refine iW ?_;erw[iv,r,rs,rfl,er,ir]
  exists 0,0,0;refine ny (i:=1) hB O rfl hy λu iu=>?_
  exists (sml rfl),λl Z=>⟨r,l,rs,[u],1,1,SqT.of (qi Z _ _ _ er),SqT.of qk,?_,λe=>?_,λ_ e=>(by cases e),λ_ _ p O=>?_⟩
  ·rw[↑ir];have:↑xs<=600:=U;exact Q6 (by show ↑xs+1<=1000;omega)
  ·subst e;have e2:xs= []:=Uq ir.length.symm;subst e2;exact k' _ _ (qi Z _) (Is.new (ds:= [B y]) (IsL.one iu) Z)
  ·have t1:Tk H (upd H l (.tup [u])):=(qi Z _).tk;exact k' _ _ ((qi Z _).trans (qi O _)) (Is.new (ds:=xs++ [B y]) ((ir.mono t1).append (IsL.one (iu.mono t1))) O)
 |_=>exact lj (k' _ H (ie.refl _) rfl)
def Pm:#[T,1,a.Xe,a.Wx,["boxes","own","parts"],(zj "join")]:=by
 exists 9,T.lC,JA
 erw[h,d,t,own,B,ps,n,rfl,hB,hT,ho,aa,hp,k];exists 3,%[#[qD,(3),JA.nd,#[Ql,#[qJ,qI,pv 2,ql]]],#[qD,(4),JA.nd,#[Ql,#[qJ,qI,pv 2,ql]]],@qK _ _ _ _ _ _ _ _ #[ZT,#[QD,#[Qo,#[qA,#[qZ,2,rfl],T.qY,uY,#v[pv 3,#[Q7,.ty "str",T.XL,UL]]]]],#[xJ,#[QD,#[Qo,#[qA,#[qZ,2,rfl],T.qY,uY,#v[pv 4,#[Q7,.ty "str",T.XL,UL]]]]]]].pt %[|#[qv,Qe]] qx|#[qv,#[qS,Qb,pv 3,pv 4]]]
 erw[wB (Q2 aa ()),x,y,rfl,hx,hy]
 exists 0,0;refine ny (i:=0) hB hp rfl hx λv iv=>?_
 exists 0,0;refine ny (i:=1) hB hp rfl hy λu iu=>?_;have lx:=jr (hT x hx);have ly:=jr (hT y hy);have O:∀(v:V) (H':Hp),ie H H'->Is H' (Abe (B x) (B y)) v->Q v H':=k;generalize B x=dx at iv O lx⊢;generalize B y=U at iu O ly⊢
 exists 0,v,"str",tyD dx,isStr dx,1,iv.ty,jW _,0;cases dx with
 |str z=>
  refine iW ⟨0,u,"str",tyD U,isStr U,1,iu.ty,jW _,0,?_⟩;cases U with
  |str Z=>
   refine iW ?_;erw[iv,rfl,_];erw[iu,rfl,_];have h1:↑z<=600:=lx;have h2:↑Z<=600:=ly;exact⟨0,0,_,0,1,mt (),O _ H (ie.refl _) ⟨1,by rw[show(z++Z).length=↑z+↑Z from Kz z Z];exact mt ()⟩⟩
  |_=>exact lj (O _ H (ie.refl _) rfl)
 |_=>exact lj (O _ H (ie.refl _) (by cases U<;>rfl))
def LB:#[T,1,a.J1,a.Zl,["boxes","own","parts"],(zj "first")]:=by
 exists 9,T.iY,zg
 erw[h,d,t,own,B,ps,n,rfl,hB,hT,ho,Z,hp,k];exists 3,%[#[qD,(3),zg.nd,#[Ql,#[qJ,qI,pv 2,ql]]]|#[qv,#[ym,#[qt,oE,#[qA,JN,T.yh,uH,#v[pv 3]],ql],#[qJ,JI,pv 3,ql],Qe]]]
 erw[wB (Q2 Z ()),x,y,rfl,hx,hy]
 exists 0,0;refine ny (i:=1) hB hp rfl hy λv U=>?_;have ly:=jr (hT y hy);have hg:=hT y hy;have O:∀(v:V) (H':Hp),ie H H'->Is H' (EW (B y)) v->Q v H':=k;generalize B y=dy at U O ly hg⊢;cases dy with
 |str z=>
  erw[U,rfl,hz]
  exists 0,.inl ⟨z,1,hz,_,0,1,0,?_⟩;refine li (λc=>?_) (λc=>?_)
  ·have h0:1<=↑z:=by have:=um c;omega
   have k2:Is H (EW (.str z)) (.str ⟨#[z.cps.getD 0 0]⟩):=by
    show Is H (if ↑z=0 then D.non else _) _
    rw[A4 ()]
    exact⟨1,Q6 (by show 1<=1000;decide)⟩
   exact[0:.inr (.inr ⟨z,(0),0,1,hz,BM h0,O _ H (ie.refl _) k2⟩)]
  ·have h0:↑z=0:=by
    rcases FA ↑z with e|e
    ·exact e
    ·exact Aa (A9 ()) c
   exact O _ H (ie.refl _) (by show Is H (if ↑z=0 then D.non else _) _;rw[A6 h0];rfl)
 |tup xs=>
  have aa:=U;erw[aa,r,rs,rfl,er,ir]
  exists 0,.inr ⟨r,rs,1,.inr (SqT.of er),λ_=>⟨_,0,1,0,?_⟩⟩;have hl:=↑ir;cases xs with
  |nil=>exact QB (ub (by rw[hl];decide)) (O _ H (ie.refl _) rfl)
  |cons e es=>
   refine QR (A9 (by rw[hl,uj];omega)) ?_
   exact[0:.inr (.inl (xS (i:=0) (d:=e) U (Qn (j:=0) rfl) λq hq=>O _ H (ie.refl _) hq))]
 |_=>simp[isT,iO] at hg
def kT:∀xs:om D,xx xs=xs.all isStr
 | []=>rfl
 | .str _::r=>by show xx r=_;rw[kT r];rfl
 | .non::_| .bl _::_| .int _::_| .lst::_| .dct::_| .tup _::_=>rfl
def AM:∀{xs:om D},xx xs=v_->xs=(xD xs).map D.str
 | [],_=>rfl
 | .str z::r,h=>by
  show D.str z::r=D.str z::(xD r).map D.str;rw[<-AM (show xx r=v_ from h)]
def IsL.strs {H:Hp}:∀{l:om Str}{vs:om V},L2.IsL H (l.map D.str) vs->vs=l.map V.str
 | [],_,h=>h
 |_::_,_,h=>by
  erw[h,v,r,rfl,h1,h2];rw[IsL.strs h2,h1.1];rfl
def IsL.ofStrs {H:Hp}:∀{l:om Str},(∀z∈l,↑z<=Vl)->L2.IsL H (l.map D.str) (l.map V.str)
 | [],_=>rfl
 |z::l,h=>⟨_,0,[1:h z ue],IsL.ofStrs λy O=>h y (uc _ O)⟩
def AL:∀(l:om Str),(l.map (·.length)).sum+↑l=szL (l.map D.str)
 | []=>rfl
 |z::l=>by
  have:=AL l;simp![ur,UI,uj,szL,sz];omega
def Ew (sep:Str):∀(l:om Str),↑(Vq sep l)<=(l.map (·.length)).sum+↑l*↑sep
 | []=>uG _
 | [x]=>by simp[Vq]
 |x::y::r=>by
  have O:=Ew sep (y::r);have e:↑(Vq sep (x::y::r))=↑x+↑sep+↑(Vq sep (y::r)):=by
   show((x.cps++sep.cps)++(Vq sep (y::r)).cps).size=_;rw[T5,T5]
   rfl
  rw[e,ur,UI,uj,Nat.succ_mul];omega
def O2:#[T,1,a.xV,a.WG,["boxes","own","parts"],(zj "rest")]:=by
 exists 9,T.lr,ZA
 erw[h,d,t,own,B,ps,n,rfl,hB,hT,ho,Z,U,k];exists 3,%[#[qD,(3),ZA.nd,#[Ql,#[qJ,qI,pv 2,ql]]]|#[qv,#[ym,#[qt,oE,#[qA,JN,T.yh,uH,#v[pv 3]],ql],#[Yc,Aan,pv 3,#[YT,ql],jl],Qe]]]
 erw[wB (Q2 Z ()),x,y,rfl,hx,hy]
 exists 0,0;refine ny (i:=1) hB U rfl hy λv iv=>?_;have ly:=jr (hT y hy);have hg:=hT y hy;have O:∀(v:V) (H':Hp),ie H H'->Is H' (Oz (B y)) v->Q v H':=k;generalize B y=dy at iv O ly hg⊢;cases dy with
 |str z=>
  erw[iv,rfl,hz]
  exists 0,.inl ⟨z,1,hz,_,0,1,0,?_⟩;refine li (λc=>?_) (λc=>?_)
  ·have h0:1<=↑z:=by have:=um c;omega
   have k2:Is H (Oz (.str z)) (.str (gT z (u_ 1) U_)):=by
    show Is H (if ↑z=0 then D.non else _) _
    rw[A4 ()]
    exact[1:uL (rV z _ _) hz]
   exact[0:0:.inl ⟨z,1,hz,O _ H (ie.refl _) k2⟩]
  ·have h0:↑z=0:=by
    rcases FA ↑z with e|e
    ·exact e
    ·exact Aa (A9 ()) c
   exact O _ H (ie.refl _) (by show Is H (if ↑z=0 then D.non else _) _;rw[A6 h0];rfl)
 |tup xs=>
  have aa:=iv;erw[aa,r,rs,rfl,er,ir]
  exists 0,.inr ⟨r,rs,1,.inr (SqT.of er),λ_=>⟨_,0,1,0,?_⟩⟩;have hl:=↑ir;cases xs with
  |nil=>exact QB (ub (by rw[hl];decide)) (O _ H (ie.refl _) rfl)
  |cons e es=>
   refine QR (A9 (by rw[hl,uj];omega)) ?_
   erw[ir,v0,r0,rfl,i0,i1]
   exists 0,0,.inr ⟨r,v0::r0,1,SqT.of er,λh=>?_,λ_ p U=>?_⟩
   ·exfalso;have:=h.1;simp[HT.sIx] at this
   ·have e1:sN (v0::r0) (u_ 1) U_=r0:=by
     rw[show(u_ (1:Int))=u_ (((1:Nat)):Int) from rfl,JU (by simp)]
     rfl
    rw[e1];exact O _ _ (qi U _) (Is.new i1 U)
 |_=>simp[isT,iO] at hg
def OY:#[T,1,a.xY,a.Wu,["boxes","own","parts"],(zj "size")]:=by
 exists 9,T.lm,nN
 erw[h,d,t,own,B,ps,n,rfl,hB,hT,ho,O,hp,k];exists 3,%[|#[qv,#[qR,Yi,T.XL,UL,#v[#[qA,JN,T.yh,uH,#v[#[Ql,#[qJ,qI,pv 2,ql]]]]]]]]
 erw[wB (Q2 O ()),x,y,rfl,hx,U]
 exists 0,0;refine ny (i:=1) hB hp rfl U λv Z=>?_;have ly:=jr (hT y U);have hg:=hT y U;have k':∀(v:V) (H':Hp),ie H H'->Is H' (.str (Vs ((Aa4 (B y):Nat):Int))) v->Q v H':=k;generalize B y=dy at Z k' ly hg⊢;have sm:∀n:Nat,n<=600->((n:Int)).natAbs.log2<1920/\↑((Vs (n:Int):Str))<=sizeLine:=by
  intro n hn;have h2:=UR ((n:Int)).natAbs;exact[():int_text_fits ()]
 cases dy with
 |str z=>
  erw[Z,rfl,hz];have h2:=sm ↑z ly;exact .inl ⟨z,1,hz,0,h2.1,k' _ H (ie.refl _) [1:h2.2]⟩
 |tup xs=>
  have aa:=Z;erw[aa,r,rs,rfl,er,ir];have h2:=sm ↑xs ly;refine .inr ⟨r,rs,1,.inr (SqT.of er),λ_=>[0:?_:?_]⟩
  ·rw[↑ir];exact h2.1
  ·rw[↑ir];exact k' _ H (ie.refl _) [1:h2.2]
 |_=>simp[isT,iO] at hg
def AaS:#[T,1,a.zV,a.kG,["boxes","own","parts"],(zj "cut")]:=by
 exists 9,T.lS,Xw
 erw[h,d,t,own,B,ps,n,rfl,hB,hT,ho,aa,Z,k];exists 3,%[#[qD,(3),Xw.nd,#[Ql,#[qJ,qI,pv 2,ql]]],#[qD,(4),Xw.nd,#[Ql,#[qJ,qI,pv 2,ql]]],@qK _ _ _ _ _ _ _ _ #[ZT,#[QD,#[Qo,#[qA,#[qZ,2,rfl],T.qY,uY,#v[pv 3,#[Q7,.ty "str",T.XL,UL]]]]],#[ZT,#[QD,#[Qo,#[qA,#[qZ,2,rfl],T.qY,uY,#v[pv 4,#[Q7,.ty "str",T.XL,UL]]]]],#[xJ,#[qt,Qk,pv 4,qp]]]].pt %[|#[qv,Qe]] qx|#[qv,#[qR,qP,T.Qr,vc,#v[#[Y4,uV,Uv,Uw,Ej,pv 3,#v[pv 4]]]]]]
 erw[Mz (Q2 aa ()),x0,x,y,rfl,ac,hx,hy]
 exists 0,0;refine ny (i:=1) hB Z rfl hx λv iv=>?_
 exists 0,0;refine ny (i:=2) hB Z rfl hy λu iu=>?_;have lx:=jr (hT x hx);have ly:=jr (hT y hy);have U:∀(v:V) (H':Hp),ie H H'->Is H' (AdH (B x) (B y)) v->Q v H':=k;generalize B x=dx at iv U lx⊢;generalize B y=dy at iu U ly⊢
 exists 0,v,"str",tyD dx,isStr dx,1,iv.ty,jW _,0;cases dx with
 |str z=>
  refine iW ⟨0,u,"str",tyD dy,isStr dy,1,iu.ty,jW _,0,?_⟩;cases dy with
  |str O=>
   refine iW ?_;erw[iv,rfl,_];erw[iu,rfl,_];have h1:↑z<=600:=lx;have h2:↑O<=600:=ly
   exists 0,1,0;refine li (λc=>?_) (λc=>?_)
   ·have e:O="":=by have:=um c;injection this
    subst e;exact U _ H (ie.refl _) rfl
   ·have h3:↑O≠0:=λh=>c (A9 (by
     have:O="":=by
      have h4:O.cps= #[]:=Array.eq_empty_of_size_eq_zero h;cases O;simp only at h4;subst h4
      decide+kernel
     rw[this]))
    exists 0,1,0,z,O,1,1,(),(),λp Z=>[p:0:.inl [SqL.of qk:λl hl=>?_]]
    have s1:ie H (upd H p (.lst ((spG z O).map V.str))):=qi Z _;refine U _ _ (s1.trans (qi hl _)) ?_;show Is _ (if ↑O=0 then D.non else .tup ((spG z O).map D.str)) _
    rw[A4 h3];exact Is.new (IsL.ofStrs λq hq=>Q6 (by have:=Oq hq;omega)) hl
  |_=>exact lj (U _ H (ie.refl _) rfl)
 |_=>exact lj (U _ H (ie.refl _) (by cases dy<;>rfl))
def Po:#[T,1,a.Xq,a.wF,["boxes","own","parts"],(zj "glue")]:=by
 exists 9,T.lD,JQ
 erw[h,d,t,own,B,ps,n,rfl,hB,hT,ho,ae,hp,k];exists 3,%[#[qD,(3),JQ.nd,#[Ql,#[qJ,qI,pv 2,ql]]],#[qD,(4),JQ.nd,#[Ql,#[qJ,qI,pv 2,ql]]],@qK _ _ _ _ _ _ _ _ #[ZT,#[QD,#[Qo,#[qA,#[qZ,2,rfl],T.qY,uY,#v[pv 3,#[Q7,.ty "tuple",T.Qr,vc]]]]],#[xJ,#[QD,#[Qo,#[qA,#[qZ,2,rfl],T.qY,uY,#v[pv 4,#[Q7,.ty "str",T.XL,UL]]]]]]].pt %[|#[qv,Qe]] qx,#[qK,#[QD,#[Qo,#[qA,#[WE,1,rfl],T.z_all,Tc,#v[#[zk,["part"],[],PU,#[KS,4,pv 3],(λ_ _ _ _ _ _=>#[qU,(0),(show Vy (["part"]:om Str) by decide+kernel)]),(λ_ _ _ _ _ _=>#[qA,#[qZ,2,rfl],T.qY,uY,#v[pv 0,#[Q7,.ty "str",T.XL,UL]]])]]]]],%[|#[qv,Qe]],qx]|#[qv,#[Y4,uV,U8,U9,LM,pv 4,#v[pv 3]]]]
 erw[Mz (Q2 ae ()),x0,x,y,rfl,ah,hx,hy]
 exists 0,0;refine ny (i:=1) hB hp rfl hx λv iv=>?_
 exists 0,0;refine ny (i:=2) hB hp rfl hy λu iu=>?_;have lx:=jr (hT x hx);have hg:=hT x hx;have ly:=jr (hT y hy);have U:∀(v:V) (H':Hp),ie H H'->Is H' (Abg (B x) (B y)) v->Q v H':=k;generalize B x=dx at iv U lx hg⊢;generalize B y=dy at iu U ly⊢
 exists 0,v,"tuple",tyD dx,XO dx,1,iv.ty,JS _,0;cases dx with
 |tup xs=>
  refine iW ⟨0,u,"str",tyD dy,isStr dy,1,iu.ty,jW _,0,?_⟩;cases dy with
  |str Z=>
   refine iW ?_;erw[iv,r,rs,rfl,er,ir];erw[iu,rfl,_];have h1:↑xs<=600:=lx;have h2:↑Z<=600:=ly
   exists 0,r,rs,1,SqT.of er,λak A0 af=>?_;refine Ao (tl:= []) (λd=> .bl (isStr d)) er ir (mt ()) af (λd0 x0 H3 R al s3 i3 q=>⟨0,x0,"str",tyD d0,isStr d0,1,i3.ty,jW _,q _ H3 (ie.refl _) rfl⟩) λH1 ys s1 l1 i1=>?_
   have ey:ys=(xs.map isStr).map V.bl:=IsL.bls (by rwa[uN])
   subst ey
   exists A0,xs.map isStr,1,SqL.of l1,0;have aa:(xs.map isStr).all id=xx xs:=by rw[kT,Ul];rfl
   rw[aa];cases O:xx xs with
   |false=>exact lj (U _ H1 s1 (by show Is H1 (if xx xs=v_ then _ else D.non) _;rw[O];rfl))
   |true=>
    have ac:=AM O;have ag:rs=(xD xs).map V.str:=IsL.strs (by rwa[<-ac])
    have hsz:=M5 hg;have ad:=AL (xD xs);rw[<-ac] at ad;simp![sz] at hsz;have am:↑(xD xs)*↑Z<=600*600:=Nat.mul_le_mul () h2
    have hj:=Ew Z (xD xs);refine iW ⟨0,1,0,Z,r,xD xs,1,1,SqT.of (by rw[s1 _ _ er,ag]),(),?_⟩
    refine U _ H1 s1 ?_;show Is H1 (if xx xs=v_ then .str (Vq Z (xD xs)) else D.non) _
    rw[O];exact[1:mt ()]
  |_=>exact lj (U _ H (ie.refl _) rfl)
 |_=>exact lj (U _ H (ie.refl _) (by cases dy<;>rfl))
nonrec def MY (w:Str)(B:Str->D)(ps:om Pt):Bool:=if w="like" then eqD (B (b0 ps)) (B (b1 ps)) else if w="rowed" then XO (B (b0 ps)) else if w="none" then decide (Aa4 (B (b0 ps))=0) else v_
nonrec def JMP:om Str:= ["go","like","rowed","none"]
nonrec def ASK:om Str:= ["ask","has","names"]
nonrec def flt (w:Str):D:= .tup [.str "fault",.str w]
nonrec def sI (w:Str)(held:D):D:=if w="names" then(if isStr held=v_ then .tup [.str "asks",.tup [.str "names",held]] else flt "kind") else if mK held=v_ then .tup [.str "asks",.tup [.str (if w="ask" then "thing" else "has"),held]] else flt "name"
inductive Oe:Sp
 |mk (d t:Addr)(w:Str)(B:Str->D)(ps:List Pt)(n:Nat)(_:vs= [.ref d,.str w,.ref t])(_:YC H d B)(_:Tr B)(_:w∈JMP)(_:Jj n 300 (w,ps))(_:IA H t ps)(_:Q (.bl (MY w B ps)) H)
inductive Le:Sp
 |mk (w:Str)(v:V)(d:D)(_:vs= [.str w,v])(_:w∈ASK)(_:Is H d v)(_:∀(u:V)(H':Hp),ie H H'->Is H' (sI w d) u->Q u H')
mutual
theorem EK:∀{d:D},iO d=v_->puD d=v_
 | .str _,_=>rfl
 | .tup xs,h=>by
  simp![iO,uu] at h;show puL xs=v_;exact goodL_pu h.2
 | .non,h| .bl _,h| .int _,h| .lst,h| .dct,h=>by simp[iO] at h
theorem goodL_pu:∀{xs:om D},goodL xs=v_->puL xs=v_
 | [],_=>rfl
 |x::r,h=>by
  simp![goodL,uu] at h;simp![puL,EK h.1,goodL_pu h.2,Vb]
end
def Sg {d:D}(h:iO d=v_):trD d=true:=by
 cases d with
 |str z=>rfl
 |tup xs=>exact EK (d:= .tup xs) h
 |_=>simp[iO] at h
def yl {d:D}(h:isT d=v_):iO d=true:=by
 unfold isT at h;rw[uu,uu] at h;exact h.1.1
def M3 {d:D}(h:isT d=v_):trD d=true:=Sg (yl h)
def Pl:#[T,1,a.JV,a.JG,["boxes","word","parts"],Oe]:=by
 exists 9,T.lX,ZR
 erw[h,d,t,w,B,ps,n,rfl,hB,hT,hw,U,hp,k];exists 3,%[#[qK,#[qt,Qk,pv 1,qp],%[|#[qv,#[YZ,#[DK,1,hr.units],#[Ql,#[qJ,qI,pv 2,ql]],#[Ql,#[qJ,qI,pv 2,ql]],qE _]]],qx],#[qK,#[qt,Qk,pv 1,qp],%[|#[qv,#[qA,#[qZ,2,rfl],T.qY,uY,#v[#[Ql,#[qJ,qI,pv 2,ql]],#[Q7,.ty "tuple",T.Qr,vc]]]]],qx],#[qK,#[qt,Qk,pv 1,qp],%[|#[qv,#[YZ,Qk,#[qA,JN,T.yh,uH,#v[#[Ql,#[qJ,qI,pv 2,ql]]]],ql,qE _]]],qx]|#[qv,ju]]
 exists 0,1,0;simp![JMP,uC,uA,uP] at hw;rcases hw with rfl|rfl|rfl|rfl
 ·refine QB () ?_
  exists 0,1,0,QB () ?_
  exists 0,1,0,QB () ?_
  exact k
 ·refine QR () ?_
  erw[Aap (Q2 U ()),x,y,i,rfl,O,hy,_]
  exists 0,0
  try dsimp![tC]
  refine ny (i:=0) hB hp rfl O λv Z=>?_
  exists 0,0
  try dsimp![tC]
  refine ny (i:=1) hB hp rfl hy λu iu=>?_
  exists B x,B y,Z,iu,M3 (hT x O),M3 (hT y hy),?_,k
  ·have:=Ws (hT x O);omega
 ·refine QB () ?_
  exists 0,1,0,QR () ?_
  erw[Aao (Q2 U ()),x,i,rfl,O,_]
  exists 0,0;refine ny (i:=0) hB hp rfl O λv Z=>?_;exact⟨v,"tuple",tyD (B x),XO (B x),1,Z.ty,JS _,k⟩
 ·refine QB () ?_
  exists 0,1,0,QB () ?_
  exists 0,1,0,QR () ?_
  erw[Aao (Q2 U ()),x,i,rfl,O,_]
  exists 0,0;refine ny (i:=0) hB hp rfl O λv Z=>?_;have k':Q (.bl (decide (Aa4 (B x)=0))) H:=k;have hg:=hT x O;generalize B x=dx at Z k' hg⊢;have hn:∀n:Nat,decide (V.int (n:Int)=V.int 0)=decide (n=0):=λn=>by
   rw[uZ];constructor
   ·intro h;injection h with h;omega
   ·rintro rfl;rfl
  cases dx with
  |str z=>
   erw[Z,rfl,hz];refine .inl ⟨z,1,hz,1,?_⟩;rw[hn];exact k'
  |tup xs=>
   erw[Z,r,rs,rfl,er,ir];refine .inr ⟨r,rs,1,.inr (SqT.of er),λ_=>[1:?_]⟩;rw[hn,↑ir];exact k'
  |_=>simp[isT,iO] at hg
def LF:#[T,2,a.Jb,a.j0,["word","held"],Le]:=by
 have yb:=#[zB,T];exists 9,T.lL,zx
 erw[h,w,v,d,rfl,hw,iv,k];exists 3,%[#[qK,#[qt,Qk,pv 0,qp],%[|#[qv,#[ym,#[Qo,#[qA,#[qZ,2,rfl],T.qY,uY,#v[pv 1,#[Q7,.ty "str",T.XL,UL]]]],#[qB,#v[qp,#[qB,#v[qp,pv 1]]]],#[qB,#v[qp,qp]]]]],qx],#[qK,#[QD,#[Qo,#[qy,yb,T.iA,#v[pv 1]]]],%[|#[qv,#[qB,#v[qp,qp]]]],qx]|#[qv,#[qB,#v[qp,#[qB,#v[#[ym,#[qt,Qk,pv 0,qp],qp,qp],pv 1]]]]]]
 have two:(2:Nat)<=sizeLine:=by decide
 have st:∀{H:Hp} (z:Str),↑z<=100->Is H (.str z) (.str z):=λz hz=>[1:Q6 ()]
 have fl:∀(z:Str) (H:Hp) (l:o6),↑z<=100->H l=U_->Is (upd H l (.tup [.str "fault",.str z])) (flt z) (.ref l):=λz H l hz U=>Is.new (ds:= [.str "fault",.str z]) ⟨_,0,st _ (),_,0,st _ hz,1⟩ U
 exists 0,1,0;by_cases c:w="names"
 ·subst c;refine QR () ?_
  have ea:sI "names" d=if isStr d=v_ then .tup [.str "asks",.tup [.str "names",d]] else flt "kind":=by unfold sI;rw[A6 rfl]
  rw[ea] at k
  exists 0,v,"str",tyD d,isStr d,1,iv.ty,jW _,0;cases hs:isStr d with
  |true=>
   rw[hs] at k;refine lj [0:two:λl U=>[two:λZ O=>?_]];have t1:ie H (upd H l (.tup [.str "names",v])):=qi U _;refine k _ _ (t1.trans (qi O _)) ?_;exact Is.new (ds:= [.str "asks",.tup [.str "names",d]]) ⟨_,0,st _ (),_,0,Is.new (ds:= [.str "names",d]) ⟨_,0,st _ (),_,0,iv,1⟩ U,1⟩ O
  |false=>
   rw[hs] at k;exact iW [two:λl U=>k _ _ (qi U _) (fl "kind" H l () U)]
 ·refine QB (ub λh=>c (by injection h)) ?_
  have ea:sI w d=if mK d=v_ then .tup [.str "asks",.tup [.str (if w="ask" then "thing" else "has"),d]] else flt "name":=by unfold sI;rw[A4 c]
  rw[ea] at k
  exists 0,v,d,1,iv,λH1 s1=>[0:?_];cases hs:mK d with
  |false=>
   rw[hs] at k;exact lj [two:λl U=>k _ _ (s1.trans (qi U _)) (fl "name" H1 l () U)]
  |true=>
   rw[hs] at k;refine iW ⟨0,1,0,?_⟩;have aa:∀z:Str,↑z<=100->z=(if w="ask" then("thing":Str) else "has")->∀l,H1 l=U_->∀Z,(upd H1 l (.tup [.str z,v])) Z=U_->Q (.ref Z) (upd (upd H1 l (.tup [.str z,v])) Z (.tup [.str "asks",.ref l])):=by
    intro z hz ez l U Z O;have t1:ie H1 (upd H1 l (.tup [.str z,v])):=qi U _;refine k _ _ (s1.trans (t1.trans (qi O _))) ?_;rw[<-ez];exact Is.new (ds:= [.str "asks",.tup [.str z,d]]) ⟨_,0,st _ (),_,0,Is.new (ds:= [.str z,d]) ⟨_,0,st _ hz,_,0,iv.mono s1.tk,1⟩ U,1⟩ O
   refine li (λc2=>?_) (λc2=>?_)
   ·have e:w="ask":=by have:=um c2;injection this
    exact⟨0,two,λl U=>⟨two,λZ O=>aa "thing" () (by rw[A6 e]) l U Z O⟩⟩
   ·have e:w≠"ask":=λe=>c2 (A9 (by rw[e]))
    exact⟨0,two,λl U=>⟨two,λZ O=>aa "has" () (by rw[A4 e]) l U Z O⟩⟩
end
structure Mc where
 (x db dg:o6)
 rs:om Rw
 own:Str
structure Rn where
 B:Str->D
 p:Int
 n:Nat
 gs:om D
 th:D
nonrec def MTH:om Str:= ["now","answer","asked","lines","copy","go_on","is_waiting","do_row","hold"]
structure Fl (fs:om (Str×V))(rv ru:V)(own:Str)(db dg:o6)(place:Int)(done:Nat)(tv:V):Prop where
 rows:fs.lookup ("rows":Str)=u_ rv
 rule:fs.lookup ("rule":Str)=u_ ru
 own:fs.lookup ("own":Str)=u_ (.str own)
 boxes:fs.lookup ("boxes":Str)=u_ (.ref db)
 place:fs.lookup ("place":Str)=u_ (.int place)
 done:fs.lookup ("done":Str)=u_ (.int (done:Int))
 given:fs.lookup ("given":Str)=u_ (.ref dg)
 there:fs.lookup ("there":Str)=u_ tv
 meth:∀m∈MTH,fs.lookup m=U_
 len:↑fs<=20
def jd {f:Str}{v:V}:∀{fs:om (Str×V)}{u:V},fs.lookup f=u_ u->↑(iG f v fs)=↑fs
 |(g,x)::r,u,h=>by
  unfold iG;by_cases c:g=f
  ·rw[A6 c];rfl
  ·rw[A4 c,uj,uj];have e:(f==g)=false:=by simp;exact λz=>c z.symm
   rw[vj,e] at h;rw[jd (u:=u) h]
 | [],u,h=>by simp at h
section
variable {fs:om (Str×V)}{rv ru:V}{own:Str}{db dg:o6}{place:Int}{done:Nat}{tv:V}
def Fl.set_there {u:V}(h:Fl fs rv ru own db dg place done tv):Fl (iG "there" (u) fs) rv ru own db dg place done u:=by
 refine⟨?_,?_,?_,?_,?_,?_,?_,?_,λm hm=>?_,by rw[jd h.there];exact h.len⟩
 all_goals rw[qM]
 all_goals first|rw[A6 rfl]|(rw[A4 ()];first|exact h.rows|exact h.rule|exact h.own|exact h.boxes|exact h.place|exact h.done|exact h.given|exact h.there)|(rw[A4 (λe=>by subst e;revert hm;decide+kernel)];exact h.meth m hm)
def Fl.set_place {q:Int}(h:Fl fs rv ru own db dg place done tv):Fl (iG "place" (.int q) fs) rv ru own db dg q done tv:=by
 refine⟨?_,?_,?_,?_,?_,?_,?_,?_,λm hm=>?_,by rw[jd h.place];exact h.len⟩
 all_goals rw[qM]
 all_goals first|rw[A6 rfl]|(rw[A4 ()];first|exact h.rows|exact h.rule|exact h.own|exact h.boxes|exact h.place|exact h.done|exact h.given|exact h.there)|(rw[A4 (λe=>by subst e;revert hm;decide+kernel)];exact h.meth m hm)
def Fl.set_done {k:Nat}(h:Fl fs rv ru own db dg place done tv):Fl (iG "done" (.int ((k:Nat):Int)) fs) rv ru own db dg place k tv:=by
 refine⟨?_,?_,?_,?_,?_,?_,?_,?_,λm hm=>?_,by rw[jd h.done];exact h.len⟩
 all_goals rw[qM]
 all_goals first|rw[A6 rfl]|(rw[A4 ()];first|exact h.rows|exact h.rule|exact h.own|exact h.boxes|exact h.place|exact h.done|exact h.given|exact h.there)|(rw[A4 (λe=>by subst e;revert hm;decide+kernel)];exact h.meth m hm)
end
nonrec def yR (C:o6)(H:Hp)(m:Mc)(r:Rn):Prop:=
 ∃(dx:o6) (fs:om (Str×V)) (rv ru tv:V) (gv:om V),H m.x=u_ (.ins C dx fs)/\Fl fs rv ru m.own m.db m.dg r.p r.n tv/\Is H (.tup (m.rs.map rowD)) rv/\Is H (Jr m.rs) ru/\YC H m.db r.B/\H m.dg=u_ (.lst gv)/\L2.IsL H r.gs gv/\Is H r.th tv
structure Mv (m:Mc)(H H':Hp):Prop where
 kept:∀b o,H b=u_ o->b≠m.x->b≠m.db->b≠m.dg->H' b=u_ o
 tk:Tk H H'
def Mv.refl (m:Mc)(H:Hp):Mv m H H:=[λ_ _ e _ _ _=>e:Tk.refl H]
variable {H H1 H2:Hp}
def Mv.trans {m:Mc}(h:Mv m H H1)(h2:Mv m H1 H2):Mv m H H2:=[λb o e n1 O U=>h2.kept b o (h.kept b o e n1 O U) n1 O U:h.tk.trans h2.tk]
variable {H':Hp}
def Mv.of {m:Mc}(s:ie H H'):Mv m H H':=[λb o e _ _ _=>s b o e:s.tk]
variable {C:o6}
def yR.same {m:Mc}{r:Rn}(h:yR C H m r)(s:ie H H'):yR C H' m r:=
 let⟨dx,fs,rv,ru,tv,gv,e,f,i,j,b,g,gl,t⟩:=h;⟨dx,fs,rv,ru,tv,gv,s _ _ e,f,i.mono s.tk,j.mono s.tk,b.same s,s _ _ g,gl.mono s.tk,t.mono s.tk⟩
variable {dx:o6}
def YC.ne {x db:o6}{fs:om (Str×V)}{B:Str->D}(e:H x=u_ (.ins C dx fs))(h:YC H db B):db≠x:=λz=>by
 erw[h,f,O,_];rw[z,e] at O;cases O
variable {fs':om (Str×V)}{rv:V}
def yx {m:Mc}{r:Rn}{fs:om (Str×V)}{ru tv:V}{O:om V}(e:H m.x=u_ (.ins C dx fs))(f:Fl fs' rv ru m.own m.db m.dg r.p r.n tv)(i:Is H (.tup (m.rs.map rowD)) rv)(j:Is H (Jr m.rs) ru)(b:YC H m.db r.B)(U:H m.dg=u_ (.lst O))(Z:L2.IsL H r.gs O)(t:Is H r.th tv):
  yR C (upd H m.x (.ins C dx fs')) m r/\Mv m H (upd H m.x (.ins C dx fs')):=by
 have tk:Tk H (upd H m.x (.ins C dx fs')):=Tk.updI e;have n1:m.db≠m.x:=YC.ne e b;have n2:m.dg≠m.x:=λz=>by rw[z,e] at U;cases U
 exact⟨⟨dx,fs',rv,ru,tv,O,qk,f,i.mono tk,j.mono tk,b.move tk (qm n1),by rwa[qm n2],Z.mono tk,t.mono tk⟩,⟨λc o h a1 _ _=>by rwa[qm a1],tk⟩⟩
nonrec def QP:D->Bool
 | .tup (.str w::_)=>decide (w="asks")
 |_=>Vh
nonrec def Th (d:D):Prop:=d= .non∨∃w e,d= .tup [.str w,e]
inductive Out where
 |go (B:Str->D)(p:Int)|stop (e:D)
nonrec def Out.B (B:Str->D):Out->Str->D
 | .go B' _=>B'
 | .stop _=>B
nonrec def Out.P (p:Int):Out->Int
 | .go _ p'=>p'
 | .stop _=>p
nonrec def Out.T:Out->D
 | .go _ _=> .non
 | .stop e=>e
nonrec def As (B:Str->D)(z:Str)(e:D)(p:Int):Out:=match e with
 | .non=> .stop (flt "kind")
 |e=>if isT e=v_ then .go (AR B z e) (p+1) else .stop (flt "big")
inductive Aai (C:Addr):Sp
 |mk (m:Mc)(r:Rn)(_:vs= [.ref m.x])(_:yR C H m r)(_:∀v,Is H r.th v->Q v H)
inductive Op (C:Addr):Sp
 |mk (m:Mc)(r:Rn)(_:vs= [.ref m.x])(_:yR C H m r)(_:∀v H',ie H H'->Is H' (.tup r.gs) v->Q v H')
inductive NM (C:Addr):Sp
 |mk (m:Mc)(r:Rn)(_:vs= [.ref m.x])(_:yR C H m r)(_:Th r.th)(_:Q (.bl (QP r.th)) H)
inductive Og (C:Addr):Sp
 |mk (m:Mc)(r:Rn)(z:Str)(v:V)(e:D)(_:vs= [.ref m.x,.str z,v])(_:yR C H m r)(_:r.th= .non)(_:z∈BX)(_:Is H e v)(_:∀H',Mv m H H'->yR C H' m ⟨(As r.B z e r.p).B r.B,(As r.B z e r.p).P r.p,r.n,r.gs,(As r.B z e r.p).T⟩->Q .non H')
section
variable {P:og}{w:oh}{K:o0}{mg:Str->oq o7}{base:o9}{a:Ad}{g:Ga}
def DY:#[T,1,a.X1,a.XJ,["self"],(Aai a.qr)]:=by
 exists 9,T.iE,WQ,O
 erw[h,m,r,rfl,[dx,fs,rv,ru,tv,U,e,f,Z,iu,ib,hg,gl,it],k];exists 3,%[|#[qv,#[qT,5,pv 0,rfl]]]
 exact⟨0,m.x,_,dx,fs,tv,1,e,T.qw,T.qO,f.there,k _ it⟩
def D5:#[T,1,a.JP,a.J8,["self"],(Op a.qr)]:=by
 exists 9,T.iJ,ZM
 erw[h,m,r,rfl,[dx,fs,rv,ru,tv,U,e,f,ir,iu,ib,Z,gl,it],k];exists 3,%[|#[qv,#[qR,qP,T.Qr,vc,#v[#[qT,5,pv 0,rfl]]]]]
 exact⟨0,m.x,_,dx,fs,0,e,T.qw,T.YV,f.given,m.dg,U,1,.inl [SqL.of Z:λl O=>k _ _ (qi O _) (Is.new gl O)]⟩
def wr:#[T,1,a.Yz,a.Yy,["self"],(NM a.qr)]:=by
 exists 9,T.iw,Jt
 erw[h,m,[B,p,n,gs,th],rfl,[dx,fs,rv,ru,tv,gv,e,f,ir,Z,ib,hg,gl,it],O,k];simp only at f ib gl it O k;exists 3,%[|#[qv,#[Bh,7,#[YZ,sZ,#[qT,5,pv 0,rfl],Qe,qE _],#[pe_one,#[YZ,Qk,#[qJ,JI,#[qT,5,pv 0,rfl],ql],qp,qE _]]]]]
 exists 0,m.x,_,dx,fs,tv,1,e,T.qw,T.qO,f.there,1;rcases O with rfl|⟨w1,e1,rfl⟩
 ·cases(show tv= .non from it)
  exact[0:QB () k]
 ·have U:=it;erw[U,t0,us,rfl,et,Z]
  exists 0,QR (by simp) ⟨0,m.x,_,dx,fs,0,e,T.qw,T.qO,f.there,?_⟩
  refine .inr (.inl (xS (i:=0) (d:= .str w1) it (Qn (j:=0) rfl) λq hq=>?_));erw[hq,rfl,_]
  exists 1;have ew:decide (V.str w1=V.str ("asks":Str))=decide (w1="asks"):=by
   rw[uZ];exact⟨λh=>by injection h,λh=>by rw[h]⟩
  rw[ew];exact k
def Pn:#[T,3,a.xL,a.xM,["self","box","tree"],(Og a.qr)]:=by
 have yJ:=#[jG,T];exists 9,T.mf,We
 erw[h,m,[B,p,n,gs,th],z,v,d,rfl,[dx,fs,rv,ru,tv,gv,e,f,ir,iu,ib,hg,gl,it],aa,hz,O,k];simp only at f ib gl it aa k;subst aa;exists 3,%[|#[qK,#[qt,YA,pv 2,Qe],%[|#[Qi,#[qB,#v[qp,qp]]]],%[|#[qK,#[QD,#[Qo,#[qy,yJ,T.iD,#v[pv 2]]]],%[|#[Qi,#[qB,#v[qp,qp]]]],%[#[YO,#[qT,5,pv 0,rfl],pv 1,pv 2]|#[JD,10,pv 0,ql,oT]]]]]]
 have two:(2:Nat)<=sizeLine:=by decide
 have st:∀{H:Hp} (z:Str),↑z<=100->Is H (.str z) (.str z):=λz hz=>[1:Q6 ()]
 have fl:∀(z:Str) (H:Hp) (l:o6),↑z<=100->H l=U_->Is (upd H l (.tup [.str "fault",.str z])) (flt z) (.ref l):=λz H l hz U=>Is.new (ds:= [.str "fault",.str z]) ⟨_,0,st _ (),_,0,st _ hz,1⟩ U
 exists 0,1,0;have Z:↑fs<1000:=by have:=f.len;omega
 by_cases c:d= .non
 ·subst c;cases(show v= .non from O)
  refine QR () [two:λl U=>?_]
  have s1:ie H (upd H l (.tup [.str "fault",.str "kind"])):=qi U _
  exists 0,m.x,_,dx,fs,1,s1 _ _ e,T.qw,T.qO,Z;erw[yx (r:=⟨B,p,n,gs,flt "kind"⟩) (s1 _ _ e) (f.set_there (u:= .ref l)) (ir.mono s1.tk) (iu.mono s1.tk) (ib.same s1) (s1 _ _ hg) (gl.mono s1.tk) (fl "kind" H l () U),m1,m2]
  exact k _ ((Mv.of s1).trans m2) m1
 ·have hv:v≠ .non:=by
   rintro rfl;cases d with
   |non=>exact c rfl
   |bl b=>cases(show V.non= .bl b from O)
   |int i=>cases(show V.non= .int i from O)
   |str z=>erw[O,h,_];cases h
   |lst=>erw[O,_,_,h,_];cases h
   |dct=>erw[O,_,_,h,_];cases h
   |tup xs=>erw[O,_,_,h,_];cases h
  have eo:As B z d p=if isT d=v_ then .go (AR B z d) (p+1) else .stop (flt "big"):=by
   cases d with
   |non=>exact Aa rfl c
   |_=>rfl
  rw[eo] at k;refine QB (ub hv) ?_
  exists 0,v,d,1,O,λH1 s1=>[0:?_];cases ht:isT d with
  |false=>
   rw[ht] at k;refine lj [two:λl U=>?_];have s2:ie H (upd H1 l (.tup [.str "fault",.str "big"])):=s1.trans (qi U _)
   exists 0,m.x,_,dx,fs,1,s2 _ _ e,T.qw,T.qO,Z;erw[yx (r:=⟨B,p,n,gs,flt "big"⟩) (s2 _ _ e) (f.set_there (u:= .ref l)) (ir.mono s2.tk) (iu.mono s2.tk) (ib.same s2) (s2 _ _ hg) (gl.mono s2.tk) (fl "big" H1 l () U),m1,m2]
   exact k _ ((Mv.of s2).trans m2) m1
  |true=>
   rw[ht] at k;refine iW ?_;have ad:=O.mono s1.tk;erw[(ib.same s1).put hz ad,kvs,ac,ae,t2];have n1:m.db≠m.x:=YC.ne e ib;have n3:m.dg≠m.db:=λz=>by
    erw[ib,ff,e2,_];rw[z,e2] at hg;cases hg
   have e1:=s1 _ _ e;have e3:(upd H1 m.db (.dK kvs)) m.x=u_ (.ins a.qr dx fs):=by rwa[qm n1.symm]
   exists 0,0,m.x,_,dx,fs,0,e1,T.qw,T.QE,f.boxes,0,m.db,0,ac
   exists 0,m.x,_,dx,fs,0,e3,T.qw,T.Qt,f.place,p,(1),1,1,dx,fs,e3,Z;obtain⟨m1,m2⟩:=yx (r:=⟨AR B z d,p+1,n,gs,.non⟩) e3 (f.set_place (q:=p+1)) ((ir.mono s1.tk).mono t2) ((iu.mono s1.tk).mono t2) ae (by rw[qm n3];exact s1 _ _ hg) ((gl.mono s1.tk).mono t2) it
   exact k _ ((Mv.of s1).trans (Mv.trans ⟨λb o h _ a2 _=>by rwa[qm a2],t2⟩ m2)) m1
nonrec def MKR:om Str:= ["text","self","copy","row","put","join","first","rest","size","cut","glue"]
nonrec def oN (ps:om Pt):Int:=match ps.getLast? with
 |some (.n i)=>i
 |_=>0
nonrec def mF (own:Str)(r:Rw)(B:Str->D)(p:Int):Out:=
 if r.1∈MKR then As B (b0 r.2) (made r.1 B own r.2) p else if r.1∈ASK then .stop (sI r.1 (B (b1 r.2))) else if r.1="say" then .stop (.tup [.str "said",B (b0 r.2)]) else
 if r.1="fault" then .stop (flt "told") else if MY r.1 B r.2=v_ then .go B (oN r.2) else .go B (p+1)
def Abk:∀x∈FRM,x.1∈MKR->x.2.head? =u_ .box:=by decide+kernel
def wT:∀x∈FRM,x.1∈ASK->x.1∉MKR/\x.1∈AbN/\x.2= [.box,.box]:=by decide+kernel
def Au:∀x∈FRM,x.1="say"->x.2= [.box]:=by decide+kernel
def ER:∀x∈FRM,x.1∈MKR∨(x.1∉MKR/\x.1∈AbN/\(x.1∈ASK∨x.1∉ASK/\(x.1="say"∨x.1="fault"∨x.1≠"say"/\x.1≠"fault"/\x.1∈JMP))):=by decide+kernel
def Sj:∀x∈FRM,x.1∈JMP->x.2.getLast? =u_ .line:=by decide+kernel
variable {r:Rw}
def AcQ {m:Nat}(h:Jj n m r)(U:r.1∈MKR):∃z ps,r.2= .s z::ps/\z∈BX:=by
 erw[h,ks,Z,O];have:=Abk _ Z U
 match ks,O,this with
 | .box::ks,O,_=>
  match h2:r.2,O with
  | .s z::ps,O=>exact⟨z,ps,1,O.1⟩
  | .n _::_,O=>exact O.1.elim
def W1 {n m:Nat}:∀{ks:om Kd}{ps:om Pt},xU n m ks ps->ks.getLast? =u_ .line->∃qs i,ps=qs++ [.n i]/\1<=i/\i<=(n:Int)
 | [k],[p],h,e=>by
  cases e;cases p with
  |n i=>exact⟨[],i,1,h.1⟩
  |s z=>exact h.1.elim
 |k::k2::ks,p::p2::ps,h,e=>by
  rw[V4] at e;erw[W1 (ks:=k2::ks) (ps:=p2::ps) h.2 e,qs,i,O,hi];exact⟨p::qs,i,by rw[O];rfl,hi⟩
 | [k],p::_::_,h,_=>h.2.elim
 |k::_::_,[p],h,_=>h.2.elim
 | [],[],_,e=>by cases e
 | [],_::_,h,_=>h.elim
 |_::_,[],h,_=>h.elim
def By {m:Nat}(h:Jj n m r)(O:r.1∈JMP):∃qs i,r.2=qs++ [.n i]/\1<=i/\i<=(n:Int)/\oN r.2=i:=by
 erw[h,ks,U,Z];erw[W1 Z (Sj _ U O),qs,i,e,h1,h2];exists qs,i,e,h1,h2;unfold oN;rw[e,List.getLast?_concat]
inductive Lb (C:Addr):Sp
 |mk (m:Mc)(r:Rn)(rw:Rw)(v:V)(k:Nat)(_:vs= [.ref m.x,v])(_:yR C H m r)(_:r.th= .non)(_:Tr r.B)(_:↑m.own<=100)(_:Jj k 300 rw)(_:Is H (rowD rw) v)(_:∀H',Mv m H H'->yR C H' m ⟨(mF m.own rw r.B r.p).B r.B,(mF m.own rw r.B r.p).P r.p,r.n,r.gs,(mF m.own rw r.B r.p).T⟩->Q .non H')
variable {x:Str}
def AcP (T:Tx K mg a)(C:Fx K w mg g a)(h:x∈MKR):∃f fd,PySem.W.nsIn K g.makers x=u_ (u_ (.ref f))/\FnOk P w K mg base CX0 1 f fd ["boxes","own","parts"] (zj x)/\zG K fd ["boxes","own","parts"] []/\PySem.W.keepIn K (.ref f)=true:=by
 simp![MKR,uC,uA,uP] at h;rcases h with rfl|rfl|rfl|rfl|rfl|rfl|rfl|rfl|rfl|rfl|rfl
 ·exact⟨_,_,C.k_text,OW T,T.ll.b,T.ll.F.kp⟩
 ·exact⟨_,_,C.k_self,OZ T,T.lp.b,T.lp.F.kp⟩
 ·exact⟨_,_,C.k_copy,Ps T,T.lE.b,T.lE.F.kp⟩
 ·exact⟨_,_,C.k_row,AaO T,T.lP.b,T.lP.F.kp⟩
 ·exact⟨_,_,C.k_put,AaP T,T.lR.b,T.lR.F.kp⟩
 ·exact⟨_,_,C.k_join,Pm T,T.lC.b,T.lC.F.kp⟩
 ·exact⟨_,_,C.k_first,LB T,T.iY.b,T.iY.F.kp⟩
 ·exact⟨_,_,C.k_rest,O2 T,T.lr.b,T.lr.F.kp⟩
 ·exact⟨_,_,C.k_size,OY T,T.lm.b,T.lm.F.kp⟩
 ·exact⟨_,_,C.k_cut,AaS T,T.lS.b,T.lS.F.kp⟩
 ·exact⟨_,_,C.k_glue,Po T,T.lD.b,T.lD.F.kp⟩
def LE:#[C,4,a.Jd,a.jZ,["self","row"],(Lb a.qr)]:=by
 have wV:=#[Pl,T];have ZU:=#[LF,T];have WT:=#[Pn,T];exists 9,T.lO,yW
 erw[h,m,[B,p,n,gs,th],r,v,nn,rfl,M,af,hT,ho,ad,iv,k];simp only at af hT k;subst af;exists 3,%[#[qD,(2),yW.nd,#[qJ,qI,pv 1,ql]],#[qD,(3),yW.nd,#[qJ,qI,pv 1,ql]]|#[qK,#[qt,8,AaL,pv 2,#[pe_gR,C.m_MAKERS],#[w]],%[|#[Qd,#[Qw,pv 0,T.qw,T.mf,WT,#v[#[qJ,qI,pv 3,ql],#[Lo,9,(1),5,⟨1,1,1,1,1⟩,#[qJ,AdE,#[pe_gR,C.m_MAKERS],pv 2],hr.mono (),#v[#[qT,5,pv 0,rfl],#[qT,5,pv 0,rfl],pv 3],_,_]]]]],%[|#[qK,#[qt,8,QU,pv 2,#[pe_gR,C.m_ASKING],#[w]],%[|#[Qi,#[qy,ZU,T.lL,#v[pv 2,#[Ql,6,Qs hr,#[qT,5,pv 0,rfl],#[qJ,qI,pv 3,ql],(λ_ _=>rfl)]]]]],%[|#[qK,#[qt,Qk,pv 2,qp],%[|#[Qi,#[qB,#v[qp,#[Ql,6,Qs hr,#[qT,5,pv 0,rfl],#[qJ,qI,pv 3,ql],(λ_ _=>rfl)]]]]],%[|#[qK,#[qt,Qk,pv 2,qp],%[|#[Qi,#[qB,#v[qp,qp]]]],%[|#[qK,#[Qo,#[qy,wV,T.lX,#v[#[qT,5,pv 0,rfl],pv 2,pv 3]]],%[|#[Qi,#[qJ,qI,pv 3,#[AaD,6,Mo,ql]]]],%[|#[JD,10,pv 0,ql,oT]]]]]]]]]]]]
 have two:(2:Nat)<=sizeLine:=by decide
 erw[r,U,ps];erw[iv,t0,us,rfl,et,iu];erw[iu,v1,u1,rfl,[rfl,aq],v2,u2,rfl,i2,e2];cases(show u2= [] from e2)
 exists 0,t0,_,(0),0,1,SqT.of et,1
 exists 0,t0,_,(1),0,1,SqT.of et,1;erw[id i2,t1,au,rfl,aw,ax];have ac:IA H t1 ps:=i2;have al:=ad;erw[al,ks,hk,hp];have hM:=M;erw[hM,dx,fs,rv,ru,tv,gv,e,f,ir,ij,ib,hg,gl,it];simp only at f ib gl it;have ae:↑fs<1000:=by have:=f.len;omega
 rcases ER _ hk with Z|⟨Z,am,aa⟩
 ·erw[AcP (P:=P) (base:=base) T C Z,fa,fd,hn,hF,hb,ao];erw[AcQ ad Z,z,qs,rfl,ap];have eo:mF m.own (U,.s z::qs) B p=As B z (made U B m.own (.s z::qs)) p:=by unfold mF;rw[A6 Z];rfl
  rw[eo] at k
  exists 0,U,g.makers,0,1,C.km,hn,0;refine lj ?_
  exists 0,m.x,dx,fs,1,e,f.meth _ (),0
  try dsimp![tC]
  refine Iv (i:=0) ac rfl ?_
  exists 0,U,g.makers,_,.ref fa,1,1,C.km,hn,1,fa,fd,_,zj U,1,hF,hb,ao
  exists 0,m.x,_,dx,fs,0,e,T.qw,T.QE,f.boxes,0,m.x,_,dx,fs,0,e,T.qw,T.zc,f.own,0
  exists m.db,t1,m.own,B,.s z::qs,nn,1,ib,hT,ho,ad,ac,λv H1 s1 hv=>?_;exact⟨m,⟨B,p,n,gs,.non⟩,z,v,0,M.same s1,1,ap,hv,λH2 m2 M2=>k H2 ((Mv.of s1).trans m2) M2⟩
 ·exists 0,U,g.makers,0,1,C.km,C.k_no _ am,0;refine iW ?_
  exists 0,g.asking,0,.inr (C.asking _),1,1,0;have ei:inV (.str U) [.str "ask",.str "has",.str "names"]=decide (U∈ASK):=JT (z:=U) (l:=ASK);rw[A4 ua,ei];rcases aa with O|⟨O,aa⟩
  ·refine QR (A9 O) ?_;erw[wT _ hk O,_,_,ek];simp only at ek;subst ek;erw[wB hp,z0,z1,rfl,h0,h1];have eo:mF m.own (U,[.s z0,.s z1]) B p= .stop (sI U (B z1)):=by unfold mF;rw[A4 Z,A6 O];rfl
   rw[eo] at k
   exists 0,0,m.x,_,dx,fs,0,e,T.qw,T.QE,f.boxes,0
   try dsimp![tC]
   refine ny (i:=1) ib ac rfl h1 λv hv=>?_
   exists U,v,B z1,1,O,hv,λu H1 s1 hu=>?_
   exists 0,m.x,_,dx,fs,1,s1 _ _ e,T.qw,T.qO,ae;erw[yx (r:=⟨B,p,n,gs,sI U (B z1)⟩) (s1 _ _ e) (f.set_there (u:=u)) (ir.mono s1.tk) (ij.mono s1.tk) (ib.same s1) (s1 _ _ hg) (gl.mono s1.tk) hu,m1,m2];exact k _ ((Mv.of s1).trans m2) m1
  ·refine QB (ub O) ?_
   exists 0,1,0;have es:∀y:Str,decide (V.str U=V.str y)=decide (U=y):=λy=>by
    rw[uZ];exact⟨λh=>by injection h,λh=>by rw[h]⟩
   rcases aa with rfl|rfl|⟨hs,hf,hj⟩
   ·refine QR (A9 rfl) ?_;have ek:=Au _ hk rfl;simp only at ek;subst ek;erw[Acu hp,z0,rfl,h0];have eo:mF m.own ("say",[.s z0]) B p= .stop (.tup [.str "said",B z0]):=by unfold mF;rw[A4 Z,A4 O,A6 rfl];rfl
    rw[eo] at k
    exists 0,m.x,_,dx,fs,0,e,T.qw,T.QE,f.boxes,0
    try dsimp![tC]
    refine ny (i:=0) ib ac rfl h0 λv hv=>?_
    exists two,λl hl=>?_;have s1:ie H (upd H l (.tup [.str "said",v])):=qi hl _
    exists 0,m.x,_,dx,fs,1,s1 _ _ e,T.qw,T.qO,ae;erw[yx (r:=⟨B,p,n,gs,.tup [.str "said",B z0]⟩) (s1 _ _ e) (f.set_there (u:= .ref l)) (ir.mono s1.tk) (ij.mono s1.tk) (ib.same s1) (s1 _ _ hg) (gl.mono s1.tk) (Is.new (ds:= [.str "said",B z0]) ⟨_,0,[1:Q6 ()],_,0,hv,1⟩ hl),m1,m2]
    exact k _ ((Mv.of s1).trans m2) m1
   ·have ag:¬(("fault":Str)="say"):=by decide+kernel
    refine QB (ub λh=>ag (by injection h)) ?_
    exists 0,1,0,QR (A9 rfl) ?_;have eo:mF m.own ("fault",ps) B p= .stop (flt "told"):=by unfold mF;rw[A4 Z,A4 O,A4 ag,A6 rfl]
    rw[eo] at k
    exists two,λl hl=>?_;have s1:ie H (upd H l (.tup [.str "fault",.str "told"])):=qi hl _
    exists 0,m.x,_,dx,fs,1,s1 _ _ e,T.qw,T.qO,ae;erw[yx (r:=⟨B,p,n,gs,flt "told"⟩) (s1 _ _ e) (f.set_there (u:= .ref l)) (ir.mono s1.tk) (ij.mono s1.tk) (ib.same s1) (s1 _ _ hg) (gl.mono s1.tk) (Is.new (ds:= [.str "fault",.str "told"]) ⟨_,0,[1:Q6 ()],_,0,[1:Q6 ()],1⟩ hl),m1,m2]
    exact k _ ((Mv.of s1).trans m2) m1
   ·refine QB (by rw[es];exact ub hs) ?_
    exists 0,1,0,QB (by rw[es];exact ub hf) ?_
    have eo:mF m.own (U,ps) B p=if MY U B ps=v_ then .go B (oN ps) else .go B (p+1):=by unfold mF;rw[A4 Z,A4 O,A4 hs,A4 hf]
    rw[eo] at k;erw[By ad hj,qs,i,ah,h1,h2,hl];simp only at ah hl
    exists 0,m.x,_,dx,fs,0,e,T.qw,T.QE,f.boxes,0,0,m.db,t1,U,B,ps,nn,1,ib,hT,hj,ad,ac,0;cases ak:MY U B ps with
    |true=>
     rw[ak] at k;refine lj ⟨0,(1),1,?_⟩;refine xS (i:= -1) (d:= .int i) ac (by rw[ah,uh];exact qad _ _) λq hq=>?_
     cases(show q= .int i from hq)
     exists 0,m.x,_,dx,fs,1,e,T.qw,T.Qt,ae;erw[yx (r:=⟨B,i,n,gs,.non⟩) e (f.set_place (q:=i)) ir ij ib hg gl it,m1,m2];refine k _ m2 ?_;show yR _ _ _ ⟨B,oN ps,n,gs,.non⟩;rwa[hl]
    |false=>
     rw[ak] at k;refine iW ⟨0,m.x,_,dx,fs,0,e,T.qw,T.Qt,f.place,p,(1),1,1,dx,fs,e,ae,?_⟩;erw[yx (r:=⟨B,p+1,n,gs,.non⟩) e (f.set_place (q:=p+1)) ir ij ib hg gl it,m1,m2];exact k _ m2 m1
nonrec def Jl (rs:om Rw)(p:Int):Rw:=rs.getD (p.toNat-1) ("fault",[])
nonrec def mJ (rs:om Rw)(own:Str)(gs:om D):Nat->(Str->D)->Int->Nat->Rn
 |0,B,p,n=>⟨B,p,n,gs,if p>↑rs then flt "silent" else flt "long"⟩
 |f+1,B,p,n=>if p>↑rs then⟨B,p,n,gs,flt "silent"⟩ else match mF own (Jl rs p) B p with
  | .go B' p'=>mJ rs own gs f B' p' (n+1)
  | .stop e=>⟨B,p,if QP e=v_ then n else n+1,gs,e⟩
variable {rs:om Rw}
def Do {p:Int}(h1:1<=p)(h2:p<=↑rs):rs[p.toNat-1]? =u_ (Jl rs p):=by
 unfold Jl;have h:p.toNat-1<↑rs:=by omega
 simp[VY,h]
def Kn {p:Int}(h1:1<=p)(h2:p<=↑rs):Jl rs p∈rs:=uK (Do h1 h2)
variable {e:D}
def Km {B:Str->D}(h:Tr B)(O:isT e=v_):Tr (AR B z e):=λy U=>by
 unfold AR;by_cases c:y=z
 ·rwa[A6 c]
 ·rw[A4 c];exact h y U
nonrec def SK (n:Int):Out->Prop
 | .go B p=>Tr B/\1<=p/\p<=n+1
 | .stop e=>∃w d,e= .tup [.str w,d]
def LW {B:Str->D}{p n:Int}(h:Tr B)(h1:1<=p)(h2:p<=n):SK n (As B z e p):=by
 have O:SK n (if isT e=v_ then .go (AR B z e) (p+1) else .stop (flt "big")):=by
  by_cases c:isT e=v_
  ·rw[A6 c];exact[Km h c:():()]
  ·rw[A4 c];exact[_:0]
 cases e with
 |non=>exact[_:0]
 |_=>exact O
def SA (w:Str)(d:D):∃u e,sI w d= .tup [.str u,e]:=by
 unfold sI;split
 ·split
  ·exact[_:0]
  ·exact[_:0]
 ·split
  ·exact[_:0]
  ·exact[_:0]
variable {own:Str}
def sV {B:Str->D}{p:Int}(hr:Jj n 300 r)(h:Tr B)(h1:1<=p)(h2:p<=n):SK n (mF own r B p):=by
 unfold mF;by_cases O:r.1∈MKR
 ·rw[A6 O];exact LW h h1 h2
 rw[A4 O];by_cases U:r.1∈ASK
 ·rw[A6 U];exact SA _ _
 rw[A4 U];by_cases Z:r.1="say"
 ·rw[A6 Z];exact[_:0]
 rw[A4 Z];by_cases c4:r.1="fault"
 ·rw[A6 c4];exact[_:0]
 rw[A4 c4];by_cases c5:MY r.1 B r.2=v_
 ·rw[A6 c5];erw[id hr,ks,hk,hp];have hj:r.1∈JMP:=by
   rcases ER _ hk with q|⟨_,_,q|⟨_,q|q|q⟩⟩
   ·exact Aa q O
   ·exact Aa q U
   ·exact Aa q Z
   ·exact Aa q c4
   ·exact q.2.2
  erw[By hr hj,qs,i,_,a1,a2,a3];exact⟨h,by rwa[a3],by rw[a3];omega⟩
 ·rw[A4 c5];exact[h:():()]
inductive Oh (C:Addr):Sp
 |mk (m:Mc)(r:Rn)(_:vs= [.ref m.x])(_:yR C H m r)(_:r.th= .non)(_:Tr r.B)(_:↑m.own<=100)(_:yj m.rs)(_:1<=r.p)(_:r.p<=↑m.rs+1)(_:r.n<=300)(_:∀(H':Hp),Mv m H H'->yR C H' m (mJ m.rs m.own r.gs (300-r.n) r.B r.p r.n)->Q .non H')
def D4:#[C,5,a.Jv,a.JM,["self"],(Oh a.qr)]:=by
 have ZV:=#[LE,T,C];have Qy:=#[wr,T];exists 9,T.iQ,ZL
 erw[h,[x,db,dg,rs,own],[B0,p0,n0,gs,th],rfl,M0,aw,ax,ho,hR,aE,ay,aF,k];simp only at aw ax ho hR aE ay aF k;subst aw;exists 3,%[|#[ji,#[qt,YA,#[qT,5,pv 0,rfl],Qe],%[|#[qK,#[qt,oE,#[qT,5,pv 0,rfl],#[qA,qL,T.yh,uH,#v[#[qT,5,pv 0,rfl]]]],%[|#[Qi,#[qB,#v[qp,qp]]]],%[|#[qK,#[qt,Qk,#[qT,5,pv 0,rfl],#[qag,T.m_MOST_DONE]],%[|#[Qi,#[qB,#v[qp,qp]]]],%[#[Qd,#[Qw,pv 0,T.qw,T.lO,ZV,#v[#[qJ,qI,#[qT,5,pv 0,rfl],#[qS,DE,#[qT,5,pv 0,rfl],ql]]]]]|#[qK,#[QD,#[Qo,#[QL,pv 0,T.qw,T.iw,Qy,hr.mono ()]]],%[|#[JD,10,pv 0,ql,oT]],qx]]]]]]]]
 have two:(2:Nat)<=sizeLine:=by decide
 have n1:=hR.n1;generalize aA:mJ rs own gs (300-n0) B0 p0 n0=res at k
 let J1_:Nat->L2.St->Hp->Prop:=λm σ H'=>∃(B:Str->D) (p:Int) (n:Nat) (th:D),σ= [u_ (.ref x)]/\yR a.qr H' ⟨x,db,dg,rs,own⟩ ⟨B,p,n,gs,th⟩/\Mv ⟨x,db,dg,rs,own⟩ H H'/\Tr B/\1<=p/\p<=↑rs+1/\n<=300/\((th= .non/\mJ rs own gs (300-n) B p n=res/\m=301-n)∨((∃u e,th= .tup [.str u,e])/\⟨B,p,n,gs,th⟩=res/\m=0))
 exists J1_,⟨_,B0,p0,n0,.non,1,M0,Mv.refl _ _,ax,(),(),(),.inl [1:aA:1]⟩
 rintro m σ H' ⟨B,p,n,th,rfl,M,mv,hT,ad,al,hn,hc⟩;have hM:=M;erw[hM,dx,fs,rv,ru,tv,gv,e,f,ir,ij,ib,hg,gl,it];simp only at e f ir ij ib hg gl it;have aB:↑fs<1000:=by have:=f.len;omega
 exists 0,x,_,dx,fs,tv,1,e,T.qw,T.qO,f.there,1,0;rcases hc with⟨rfl,Z,rfl⟩|⟨⟨u,d,rfl⟩,Z,rfl⟩
 ·cases(show tv= .non from it)
  have ag:∀{H:Hp},Is H .non .non:=rfl;refine QR () ?_
  exists λσ' H2=>∃(B:Str->D) (p:Int) (n2:Nat) (th:D),σ'= [u_ (.ref x)]/\yR a.qr H2 ⟨x,db,dg,rs,own⟩ ⟨B,p,n2,gs,th⟩/\Mv ⟨x,db,dg,rs,own⟩ H H2/\Tr B/\1<=p/\p<=↑rs+1/\n2<=300/\((th= .non/\mJ rs own gs (300-n2) B p n2=res/\n<n2)∨((∃u e,th= .tup [.str u,e])/\⟨B,p,n2,gs,th⟩=res)),?_,?_
  ·rintro σ' H2 ⟨B2,p2,n2,aM,rfl,M2,ae,aC,a1,a2,a3,aG⟩;rcases aG with⟨rfl,q1,q2⟩|⟨q0,q1⟩
   ·exact⟨301-n2,(),B2,p2,n2,0,M2,ae,aC,a1,a2,a3,.inl [1:q1:1]⟩
   ·exact⟨(0),(),B2,p2,n2,0,M2,ae,aC,a1,a2,a3,.inr [q0:q1:1]⟩
  ·have aH:=ir;erw[aH,ta,us,rfl,aI,iu];have aN:↑us=↑rs:=by rw[↑iu,u9]
   have fl:∀(z:Str) (H:Hp) (l:o6),↑z<=100->H l=U_->Is (upd H l (.tup [.str "fault",.str z])) (flt z) (.ref l):=λz H l hz hl=>Is.new (ds:= [.str "fault",.str z]) ⟨_,0,[1:Q6 ()],_,0,[1:Q6 ()],1⟩ hl
   have aa:∀(z:Str),↑z<=100->⟨B,p,n,gs,flt z⟩=res->∀l,H' l=U_->(λH2=>∃(B:Str->D) (p:Int) (n2:Nat) (th:D),[u_ (V.ref x)]= [u_ (V.ref x)]/\yR a.qr H2 ⟨x,db,dg,rs,own⟩ ⟨B,p,n2,gs,th⟩/\Mv ⟨x,db,dg,rs,own⟩ H H2/\Tr B/\1<=p/\p<=↑rs+1/\n2<=300/\((th= .non/\mJ rs own gs (300-n2) B p n2=res/\n<n2)∨((∃u e,th= .tup [.str u,e])/\⟨B,p,n2,gs,th⟩=res))) (upd (upd H' l (.tup [.str "fault",.str z])) x (.ins a.qr dx (iG "there" (.ref l) fs))):=by
    intro z hz aJ l hl;have s1:ie H' (upd H' l (.tup [.str "fault",.str z])):=qi hl _;erw[yx (m:=⟨x,db,dg,rs,own⟩) (r:=⟨B,p,n,gs,flt z⟩) (s1 _ _ e) (f.set_there (u:= .ref l)) (ir.mono s1.tk) (ij.mono s1.tk) (ib.same s1) (s1 _ _ hg) (gl.mono s1.tk) (fl z H' l hz hl),m1,m2];exact⟨B,p,n,flt z,1,m1,mv.trans ((Mv.of s1).trans m2),hT,ad,al,hn,.inr [[_:0]:aJ]⟩
   exists 0,x,_,dx,fs,0,e,T.qw,T.Qt,f.place,0,x,_,dx,fs,0,e,T.qw,T.Yf,f.rows,ta,us,1,.inr (SqT.of aI),_,0,1,0;refine li (λc=>?_) (λc=>?_)
   ·have c':p>↑rs:=by have:=um c;omega
    have er:⟨B,p,n,gs,flt "silent"⟩=res:=by
     rw[<-Z];cases h3:300-n with
     |zero=>unfold mJ;rw[A6 c']
     |succ q=>unfold mJ;rw[A6 c']
    exists two,λl hl=>?_;have s1:ie H' (upd H' l (.tup [.str "fault",.str "silent"])):=qi hl _;exact⟨0,x,_,dx,fs,1,s1 _ _ e,T.qw,T.qO,aB,aa "silent" () er l hl⟩
   ·have c':¬p>↑rs:=λh=>c (A9 ())
    exists 0,x,_,dx,fs,0,e,T.qw,T.yi,f.done,1,0;refine li (λc2=>?_) (λc2=>?_)
    ·have e3:n=300:=by have:=um c2;injection this with h;omega
     have er:⟨B,p,n,gs,flt "long"⟩=res:=by
      rw[<-Z,e3];show _=mJ rs own gs 0 B p 300;unfold mJ;rw[A4 c']
     exists two,λl hl=>?_;have s1:ie H' (upd H' l (.tup [.str "fault",.str "long"])):=qi hl _;exact⟨0,x,_,dx,fs,1,s1 _ _ e,T.qw,T.qO,aB,aa "long" () er l hl⟩
    ·have e3:n<300:=by
      rcases UV n 300 with h|h
      ·exact h
      ·exact Aa (A9 (by rw[show n=300 by omega];rfl)) c2
     have am:p<=↑rs:=by omega
     have aD:=hR.ok _ (Kn ad am);have hok:=sV (own:=own) aD hT ad am;have U:res=match mF own (Jl rs p) B p with
       | .go B' p'=>mJ rs own gs (300-(n+1)) B' p' (n+1)
       | .stop e=>⟨B,p,if QP e=v_ then n else n+1,gs,e⟩:=by
      rw[<-Z,show 300-n=(300-(n+1))+1 by omega,mJ,A4 c']
     exists 0,x,dx,fs,1,e,f.meth _ ()
     exists 0,x,_,dx,fs,0,e,T.qw,T.Yf,f.rows,0,x,_,dx,fs,0,e,T.qw,T.Qt,f.place,_,0,1;have aK:atI (rs.map rowD) (p-1)=u_ (rowD (Jl rs p)):=by
      rw[show p-1=((p.toNat-1:Nat):Int) by omega]
      exact Qn (by rw[uD,Do ad am];rfl)
     refine xS (d:=rowD (Jl rs p)) ir aK λq hq=>?_
     exists ⟨x,db,dg,rs,own⟩,⟨B,p,n,gs,.non⟩,Jl rs p,q,↑rs,1,M,1,hT,ho,aD,hq,λH2 m2 M2=>?_;have aL:=M2;erw[aL,af,ac,aO,aP,aQ,aR,e2,f2,ao,ap,ah,aq,au,ag];simp only at e2 f2 ao ap ah aq au ag;have ak:↑ac<1000:=by have:=f2.len;omega
     have ae:=mv.trans m2;generalize hO:mF own (Jl rs p) B p=O at hok U M2 ag ah f2;cases O with
     |go B' p'=>
      erw[hok,q1,q2,q3]
      exists 0,x,af,ac,1,e2,f2.meth _ (),_,0,M2,.inl rfl,0
      refine QR rfl ?_
      exists 0,x,_,af,ac,0,e2,T.qw,T.yi,f2.done,(n:Int),(1),1,1,af,ac,e2,ak;erw[yx (m:=⟨x,db,dg,rs,own⟩) (r:=⟨B',p',n+1,gs,.non⟩) e2 (f2.set_done (k:=n+1)) ao ap ah aq au ag,m3,m4];exact⟨B',p',n+1,.non,1,m3,ae.trans m4,q1,q2,q3,(),.inl [1:U.symm:()]⟩
     |stop d=>
      erw[hok,u,d2,rfl]
      exists 0,x,af,ac,1,e2,f2.meth _ (),_,0,M2,.inr [_:0],0
      cases hw:QP (.tup [.str u,d2]) with
      |true=>
       simp![hw] at U;refine QB (by show(!QP (.tup [.str u,d2]))=Vh;rw[hw];rfl) ?_
       exact⟨B,p,n,0,M2,ae,hT,ad,al,hn,.inr [[_:0]:U.symm]⟩
      |false=>
       simp![hw] at U;refine QR (by show(!QP (.tup [.str u,d2]))=v_;rw[hw];rfl) ?_
       exists 0,x,_,af,ac,0,e2,T.qw,T.yi,f2.done,(n:Int),(1),1,1,af,ac,e2,ak;erw[yx (m:=⟨x,db,dg,rs,own⟩) (r:=⟨B,p,n+1,gs,.tup [.str u,d2]⟩) e2 (f2.set_done (k:=n+1)) ao ap ah aq au ag,m3,m4];exact⟨B,p,n+1,0,m3,ae.trans m4,hT,ad,al,(),.inr [[_:0]:U.symm]⟩
 ·have:tv≠ .non:=by erw[it,_,_,h,_];rw[h];exact λz=>by cases z
  refine QB (ub this) ?_;refine k H' mv ?_;rw[<-Z];exact M
nonrec def emp (z:Str):D:= .tup [.str z,.str ""]
def MF {H:Hp}:∀{zs:om Str}{ys:om V},L2.IsL H (zs.map emp) ys->∃ts:om o6,ys=ts.map V.ref/\↑ts=↑zs/\∀(i:Nat) (t:o6) (z:Str),ts[i]? =u_ t->zs[i]? =u_ z->H t=u_ (.tup [.str z,.str ""])
 | [],_,h=>by
  cases(show _= [] from h)
  exact⟨[],1,1,λi t z h=>by simp at h⟩
 |y::zs,_,h=>by
  erw[h,v,r,rfl,[t,us,rfl,O,v1,u1,rfl,[rfl,_],v2,U,rfl,[rfl,_],Z],h2];cases(show U= [] from Z)
  erw[MF h2,ts,rfl,hl,hi];refine⟨t::ts,1,by rw[uj,hl];rfl,λi q z h1 h3=>?_⟩
  cases i with
  |zero=>
   cases h1;cases h3;exact O
  |succ j=>exact hi j q z (by simpa using h1) (by simpa using h3)
variable {ys:om V}
def OK {A:o6}(e:H A=u_ (.lst ys))(h:L2.IsL H (BX.map emp) ys):BY H A (BX.map λz=>(z,V.str "")):=by
 erw[MF h,ts,rfl,U,hi];exists ts,e,by rw[U,u9],λi t p h1 h2=>?_
 rw[uD] at h2;cases O:BX[i]? with
 |none=>rw[O] at h2;cases h2
 |some z=>
  rw[O] at h2;cases h2;exact hi i t z h1 O
nonrec def B0:Str->D:=λ_=> .str ""
variable {q:o6}
def Sx (O:H q=U_):YC (upd H q (.dK (iy (BX.map λz=>(z,V.str ""))))) q B0:=by
 exists λ_=> .str "",?_,λz _=>[1:Q6 ()]
 rw[qk];unfold iy kvB;rw[uN]
 rfl
def SU:Tr B0:=λ_ _=>(by decide+kernel:isT (.str "")=v_)
def Me:((BX.map λz=>(z,V.str "")).map (·.1)).Nodup:=by
 rw[uN];show(BX.map id).Nodup;rw[Hr]
 decide+kernel
def Ds (f:Str)(v:V):∀fs:om (Str×V),↑(iG f v fs)<=↑fs+1
 | []=>ug _
 |(g,x)::r=>by
  unfold iG;by_cases c:g=f
  ·rw[A6 c];simp
  ·rw[A4 c];have:=Ds f v r;simp![uj];omega
nonrec def FLD:om Str:= ["rows","rule","own","boxes","place","done","given","there"]
def PM:∀m∈MTH,m∉FLD:=by decide+kernel
variable {v:V}
def Nf {db dg:o6}(O:(iG "there" .non (iG "given" (.ref dg) (iG "done" (.int 0) (iG "place" (.int 1) (iG "boxes" (.ref db) (iG "own" (.str own) (iG "rule" v (iG "rows" rv [])))))))).length<=20):
  Fl (iG "there" .non (iG "given" (.ref dg) (iG "done" (.int 0) (iG "place" (.int 1) (iG "boxes" (.ref db) (iG "own" (.str own) (iG "rule" v (iG "rows" rv [])))))))) rv v own db dg 1 0 .non:=by
 exists ?_,?_,?_,?_,?_,?_,?_,?_,λm hm=>?_,O
 ·iterate 7 rw[qM,A4 ()]
  rw[qM,A6 rfl]
 ·iterate 6 rw[qM,A4 ()]
  rw[qM,A6 rfl]
 ·iterate 5 rw[qM,A4 ()]
  rw[qM,A6 rfl]
 ·iterate 4 rw[qM,A4 ()]
  rw[qM,A6 rfl]
 ·iterate 3 rw[qM,A4 ()]
  rw[qM,A6 rfl]
 ·iterate 2 rw[qM,A4 ()]
  rw[qM,A6 rfl]
  rfl
 ·rw[qM,A4 (),qM,A6 rfl]
 ·rw[qM,A6 rfl]
 ·have h:=PM m hm
  iterate 8 rw[qM,A4 (λe=>h (by rw[e];decide+kernel))]
  rfl
structure Ini (n:Nat)(H:Hp)(C x dx:o6)(fs:om (Str×V))(H':Hp):Prop where
 len:↑fs<=n
 at':H' x=u_ (.ins C dx fs)
 kept:∀b o,H b=u_ o->b≠x->H' b=u_ o
def Ini.put {x:o6}{fs:om (Str×V)}(I:Ini n H C x dx fs H')(f:Str)(v:V):Ini (n+1) H C x dx (iG f v fs) (upd H' x (.ins C dx (iG f v fs)))/\Tk H' (upd H' x (.ins C dx (iG f v fs))):=
 ⟨⟨uL (Ds f v fs) (rf I.len),qk,λb o h n=>by rw[qm n];exact I.kept b o h n⟩,Tk.updI I.at'⟩
def Ini.same {x:o6}{fs:om (Str×V)}(I:Ini n H C x dx fs H')(s:ie H' H2):Ini n H C x dx fs H2:=[I.len:s _ _ I.at':λb o h n=>s _ _ (I.kept b o h n)]
def Aa7 {K:o0}{b A:o6}{H1:Hp}{te:TE}{tl:L2.St}{Q:VK}(O:∀H,SqT K H b (BX.map V.str))(hA:H1 A=U_)
  (U:∀(z:Str) H (R:VK),↑z<=Vl->ie H1 H->(∀y H',ie H H'->Is H' (emp z) y->R y H')->te (u_ (.str z)::tl) H R)
  (hQ:∀H' ys,ie H1 H'->H' A=u_ (.lst ys)->L2.IsL H' (BX.map emp) ys->Q (.ref A) H'):Es A (Itt K b) (Y5 0) sO te (U_::tl) H1 Q:=by
 have hl:∀H,L2.IsL H (BX.map D.str) (BX.map V.str):=λH=>IsL.ofStrs λz Z=>Q6 (by rw[(Nk Z).1];decide)
 refine Ep (ds:=BX.map D.str) (λd=>match d with| .str z=>emp z|d=>d) (Q6 ()) hA (λi H sm hi=>⟨BX.map V.str,(BX.map V.str)[i]'(by simpa using hi),O H,uf _⟩) (λi H x H' d sm hd y=>?_) (λH sm=>⟨BX.map V.str,O H,by simp⟩) (λd x H R hd sm hx r=>?_) (λH' ys sm e h=>hQ H' ys sm e ?_)
 ·erw[y,rfl,y];erw[(hl H').get hd,v,e1,e2];have:=y _ (O H');rw[e1] at this;cases this;exact[1:e2]
 ·erw[Ag.mp hd,z,_,rfl];erw[hx,rfl,Z];exact U z H R Z sm r
 ·rwa[uN] at h
def LV:∀{d:D},mK d=v_->∃own,d= .str own/\nm own=v_/\↑own<=100
 | .str z,h=>⟨z,1,h,by
  rcases UV 24 ↑z with h1|h1
  ·rw[show mK (.str z)=nm z from rfl,Bo (λq=>by omega)] at h
   cases h
  ·omega⟩
def sG {n:Nat}:∀{ds:om D},ds.all (λd=>(Qv n d).isSome)=v_->((ds.filterMap (Qv n)).map λr=>D.str (Yk r))=ds/\↑(ds.filterMap (Qv n))=↑ds/\∀r∈ds.filterMap (Qv n),Jj n 300 r
 | [],_=>⟨1,1,λr h=>by simp at h⟩
 |d::ds,h=>by
  rw[vx,uu] at h;erw[XM h.1,r,O];erw[sG h.2,Z,i2,i3];cases d with
  |str z=>
   obtain⟨h1,h2⟩:=AV (show WJ n z=u_ r from O)
   rw[Ui O];exists by rw[ur,h2,Z],by rw[uj,uj,i2],λx U=>?_
   rcases Ac.mp U with rfl|U
   ·exact h1
   ·exact i3 x U
  |_=>cases O
def AZ:∀{d:D}{rs:om Rw},ya d=u_ rs->yj rs/\d=Jr rs
 | .tup ds,rs,h=>by
  rw[XZ] at h;split at h
  ·rename_i O
   cases h;simp![uu,uR] at O;erw[O,[[h1,h2],h3],h4];erw[sG h3,U,Z,i3];have e:Jr (ds.filterMap (Qv ↑ds))= .tup ds:=Ab D.tup U;exact⟨⟨(),(),λr hr=>by rw[Z];exact i3 r hr,by rwa[e]⟩,e.symm⟩
  ·cases h
inductive IU (C br bn:Addr)(vs:List V)(H:Hp)(Q:VK)(E:XK):Prop
 |mk (x dx:Addr)(v ov:V)(d od:D)(_:vs= [.ref x,v,ov])(_:H x=u_ (.ins C dx []))(_:Is H d v)(_:Is H od ov)(_:(ya d=U_->∀(e:Addr)(H':Hp),(∀b o,H b=u_ o->b≠x->H' b=u_ o)->E (.ref e) (u_ br) H'))(_:(ya d≠U_->mK od=Vh->∀(e:Addr)(H':Hp),(∀b o,H b=u_ o->b≠x->H' b=u_ o)->E (.ref e) (u_ bn) H'))(_:(∀(rs:List Rw)(own:Str),d=Jr rs->yj rs->od= .str own->nm own=v_->↑own<=100->∀(H':Hp)(db dg:Addr),(∀b o,H b=u_ o->b≠x->H' b=u_ o)->H db=U_->H dg=U_->yR C H' ⟨x,db,dg,rs,own⟩ (mJ rs own [] 300 B0 1 0)->Q .non H'))
def Bk (T:Tx K mg a)(C:Fx K w mg g a):FnOk P w K mg base (CX1 P w) 6 a.js a.xz ["self","rule","own"] (IU a.qr g.br g.bn):=by
 have yb:=#[zB,T];have O:=#[O0,T,C];have Y1:=#[D4,T,C];refine T.ld.F.okX WB () (λ_ _ _ _ H _ Q E hr h=>?_)
 erw[h,x,dx,v,ov,d,od,rfl,hx,hv,ho,kR,kN,k];exists 3,%[#[Qi,#[qy,16,O,hr.mono (),_,T.lq.m,T.lq.F.kp,T.lq.b,.nil,AcF,#v[pv 1],_,_,_]],#[qK,#[QD,#[Qo,#[qy,yb,T.iA,#v[pv 2]]]],%[|#[Bd,22,C.x_BadName,_,C.m_BadName,qp,_,_]],qx],#[Qi,pv 1],#[Qi,pv 2],#[Qi,#[qR,#[Zg,1,rfl],T.z_dict,Ho,#v[#[zk,["box"],[],PU,#[KS,4,#[pe_gR,C.m_BOXES]],(λ_ _ _ _ _ _=>#[qU,(0),(show Vy (["box"]:om Str) by decide+kernel)]),(λ_ _ _ _ _ _=>#[qB,#v[pv 0,qp]])]]]],#[Qi,ql],#[Qi,ql],#[Qi,#[QA,qh]],#[Qi,Qe]|#[Qd,#[QL,pv 0,T.qw,T.iQ,Y1,hr.mono ()]]]
 exists 0,v,d,1,hv,λrs al rv H1 s1 ir=>?_,λhn e H1 s1=>kR hn e H1 λb o h _=>s1 b o h
 exists 0,x,_,dx,[],1,s1 _ _ hx,T.qw,T.Yf,()
 have I0:Ini 0 H a.qr x dx [] H1:=[ug _:s1 _ _ hx:λb o h _=>s1 _ _ h];erw[I0.put "rows" rv,I1,t1];have aA:=ir.mono t1;have htk:∀{n:Nat}{fs:om (Str×V)}{H':Hp},Ini n H a.qr x dx fs H'->Tk H H':=λ{n fs H'} I=>⟨λb xs e=>I.kept b _ e (λz=>by rw[z,hx] at e;cases e),λb xs e=>⟨_,I.kept b _ e (λz=>by rw[z,hx] at e;cases e)⟩,λb xs e=>⟨_,I.kept b _ e (λz=>by rw[z,hx] at e;cases e)⟩⟩
 exists 0,ov,od,1,ho.mono (htk I1),λH3 s3=>[0:?_];have I3:=I1.same s3;cases ac:mK od with
 |false=>exact lj ⟨1,λe=>kN (by rw[al];simp) ac e H3 I3.kept⟩
 |true=>
 refine iW ?_;erw[AZ al,hR,rfl];erw[LV ac,own,rfl,ac,am];cases(show ov= .str own from ho.1)
 have n1:=hR.n1;have k:=k rs own rfl hR rfl ac am;have aB:=aA.mono s3.tk
 exists 5
 refine⟨0,0,x,_,dx,0,I3.at',T.qw,T.WU,by have:=I3.len;omega,?_⟩
 erw[I3.put "rule" v,I4,t4];have aC:=aB.mono t4
 exists 5
 refine⟨0,0,x,_,dx,0,I4.at',T.qw,T.zc,by have:=I4.len;omega,?_⟩
 erw[I4.put "own" (.str own),I5,t5];have aD:=aC.mono t5
 exists g.boxes,0,C.boxes _,λaO A0 aE=>?_;refine Aa7 (tl:= []) C.boxes aE (λz H6 R hz s6 r=>[0:(sml rfl):λl hl=>r _ _ (qi hl _) (Is.new (ds:= [.str z,.str ""]) ⟨_,0,[1:hz],_,0,[1:Q6 ()],1⟩ hl)]) λH6 ys s6 e6 i6=>?_
 exists A0,0,OK e6 i6,Me,(),λdb Z=>?_
 have I6:=I5.same s6;have s7:ie H6 (upd H6 db (.dK (iy (BX.map λz=>(z,V.str ""))))):=qi Z _;have I7:=I6.same s7;have b7:=Sx Z;have aF:=(aD.mono s6.tk).mono s7.tk;have nx:∀b o,H b=u_ o->b≠x->b≠db:=λb o h n=>qo (I6.kept b o h n) Z;have U:x≠db:=qo I6.at' Z
 exists 5
 refine⟨0,x,_,dx,0,I7.at',T.qw,T.QE,by have:=I7.len;omega,?_⟩
 erw[I7.put "boxes" (.ref db),I8,t8];have b8:=b7.move t8 (qm U.symm);have aG:=aF.mono t8
 exists 5
 refine⟨0,x,_,dx,0,I8.at',T.qw,T.Qt,by have:=I8.len;omega,?_⟩
 erw[I8.put "place" (.int 1),I9,t9];have b9:=b8.move t9 (qm U.symm);have aH:=aG.mono t9
 exists 5
 refine⟨0,x,_,dx,0,I9.at',T.qw,T.yi,by have:=I9.len;omega,?_⟩
 erw[I9.put "done" (.int 0),ad,ao];have aI:=b9.move ao (qm U.symm);have ap:=aH.mono ao
 exists (sml rfl),λdg ae=>?_;have af:=qi ae (.lst []);have ag:=ad.same af;have aJ:=aI.same af;have aq:=ap.mono af.tk;have ah:dg≠x:=(qo ad.at' ae).symm
 exists 5
 refine⟨0,x,_,dx,0,ag.at',T.qw,T.YV,by have:=ag.len;omega,?_⟩
 erw[ag.put "given" (.ref dg),ak,au];have aK:=aJ.move au (qm U.symm);have aw:=aq.mono au
 exists 5
 refine⟨0,x,_,dx,0,ak.at',T.qw,T.qO,by have:=ak.len;omega,?_⟩
 erw[ak.put "there" .non,aa,ax];have aL:=aK.move ax (qm U.symm);have ay:=aw.mono ax;have hl:=aa.len
 exists 0,x,dx,0,aa.at',(Nf ()).meth _ ()
 have aM:Is _ (Jr rs) v:=hv.mono (htk aa);have frs:∀{b:o6}{H2:Hp},(∀c o,H c=u_ o->c≠x->H2 c=u_ o)->H2 b=U_->b≠x->H b=none:=λ{b H2} k1 h1 n1=>by
  cases hc:H b with
  |none=>rfl
  |some o=>rw[k1 b o hc n1] at h1;cases h1
 have aN:∀b o,H b=u_ o->b≠x->b≠dg:=λb o h n=>qo (ad.kept b o h n) ae
 exists 5
 refine⟨⟨x,db,dg,rs,own⟩,⟨B0,(1),(0),[],.non⟩,1,⟨dx,_,rv,v,.non,[],aa.at',Nf (),ay,aM,aL,?_,1,1⟩,1,SU,am,hR,Int.le_refl 1,by show(1:Int)<=(↑rs:Int)+1;omega,uG _,λH' m M=>k H' db dg (λb o h n=>m.kept b o (aa.kept b o h n) n (nx b o h n) (aN b o h n)) (frs I6.kept Z U.symm) (frs ad.kept ae ah) M⟩
 rw[qm ah,qm ah,qk]
nonrec def Jh (z:Str):Bool:=z.cps.toList.all QJ
def D8 {y:Str}(h:Jh z=v_)(k:Jh y=v_):Jh (z++y)=true:=by
 unfold Jh at*;show(z.cps++y.cps).toList.all QJ=v_;rw[tt,V3,h,k];rfl
mutual
noncomputable def lw:D->Bool
 | .str z=>Jh z
 | .tup xs=>lwL xs
 |_=>Vh
noncomputable def lwL:om D->Bool
 | []=>v_
 |x::r=>lw x&&lwL r
end
def qaj (z:Str):↑z=↑z.cps.toList:=by show z.cps.size=_;simp
def EB (h:Jh z=v_)(O:↑z<=300):isT (.str z)=true:=by
 have U:Qz z=true:=by
  unfold Qz;rwa[A9 O,HH]
 have Z:sz (.str z)<=600:=by simp![sz];omega
 have e2:dp (.str z)<=12:=by simp![dp];omega
 have e3:iO (.str z)=true:=by simp![iO];exact U
 unfold isT;rw[e3,A9 Z,A9 e2]
 rfl
nonrec def isP:D->Bool
 | .tup xs=>decide (↑xs=2)
 |_=>Vh
nonrec def oS:D->Bool
 | .tup [k,d]=>if eqD k (.str "made")=v_ then mK d else(eqD k (.str "leaf")||eqD k (.str "rule"))&&isT d
 |_=>Vh
nonrec def okS:D->Bool
 | .tup [k,_]=>MO k&&decide (dp k<=60)
 |_=>v_
inductive NV:Sp
 |mk (v:_)(d:_)(_:vs= [v])(_:Is H d v)(_:Q (.bl (isP d)) H)
inductive C5:Sp
 |mk (v:_)(d:_)(_:vs= [v])(_:Is H d v)(_:okS d=v_)(_:∀H',ie H H'->Q (.bl (oS d)) H')
inductive On (K:PySem.W.Frag):Sp
 |mk (q:Addr)(ns:List Int)(k:Int)(_:vs= [.ref q,.int k])(_:0<=k)(_:SqL K H q (ns.map V.int))(_:∀i:Int,Q (.int i) H)
def lh {b:Bool}{A B:Prop}(O:b=v_)(h:A):if b=v_ then A else B:=by rw[A6 O];exact h
def iN {b:Bool}{A B:Prop}(O:b=Vh)(h:B):if b=v_ then A else B:=by rw[A4 (by rw[O];exact ua)];exact h
def O4:#[T,1,a.f_is_pair,a.d_is_pair,["value"],NV]:=by
 exists 9,T.mj,Cb
 erw[h,v,d,rfl,U,k];exists 3,%[|#[qv,#[Bh,7,#[qA,#[qZ,2,rfl],T.qY,uY,#v[pv 0,#[Q7,.ty "tuple",T.Qr,vc]]],#[pe_one,#[YZ,Qk,#[qA,JN,T.yh,uH,#v[pv 0]],ql,qE _]]]]]
 exists 0,v,"tuple",tyD d,XO d,1,U.ty,JS d,0;cases Z:XO d with
 |false=>
  refine iW ?_;have e:isP d=false:=by cases d<;>first|rfl|simp[XO] at Z
  rwa[e] at k
 |true=>
  obtain⟨xs,rfl⟩:∃xs,d= .tup xs:=by cases d<;>simp[XO] at Z;exact⟨0⟩
  erw[U,p,us,rfl,hp,O];have lu:=↑O;refine lj [0:.inr ⟨p,us,1,.inr (SqT.of hp),λ_=>[1:?_]⟩];have e:decide (V.int (↑us:Int)=V.int 2)=isP (.tup xs):=by
   simp![isP,uZ];constructor
   ·intro h;have:=V.int.inj h;omega
   ·intro h;rw[lu,h]
    rfl
  rwa[<-e] at k
def DO:#[T,3,a.wg,a.Wr,["value"],C5]:=by
 have O:=#[O4,T];have yb:=#[zB,T];have yJ:=#[jG,T];exists 9,T.mP,nQ,Z
 erw[h,v,d,rfl,hv,hok,k];exists 3,%[#[qK,#[QD,#[Qo,#[qy,16,O,Z.mono (),_,T.mj.m,T.mj.F.kp,T.mj.b,.nil,qH,#v[pv 0],_,_,_]]],%[|#[qv,ju]],qx],#[qK,#[qt,#[AaM,1,Z.units],#[qJ,qI,pv 0,ql],qp],%[|#[qv,#[qy,16,yb,Z.mono (),_,T.iA.m,T.iA.F.kp,T.iA.b,.nil,qH,#v[#[qJ,qI,pv 0,ql]],_,_,_]]],qx]|#[qv,#[Bh,7,#[YZ,#[MM,1,Z.units],#[qJ,qI,pv 0,ql],#[qB,#v[qp,qp]],#[w]],#[pe_one,#[qy,16,yJ,Z.mono (),_,T.iD.m,T.iD.F.kp,T.iD.b,.nil,qH,#v[#[qJ,qI,pv 0,ql]],_,_,_]]]]]
 exists 0,v,0,hv,0;cases hP:isP d with
 |false=>
  refine lj ?_;have e:oS d=false:=by
   cases d with
   |tup xs=>
    match xs,hP with
    | [],_=>rfl
    | [_],_=>rfl
    | [_,_],h=>simp[isP] at h
    |_::_::_::_,_=>rfl
   |_=>rfl
  have:=k H (ie.refl _);rwa[e] at this
 |true=>
  refine iW ?_;obtain⟨z,e,rfl⟩:∃z e,d= .tup [z,e]:=by
   cases d with
   |tup xs=>
    match xs,hP with
    | [],h=>simp[isP] at h
    | [_],h=>simp[isP] at h
    | [x,y],_=>exact[x:y:1]
    |_::_::_::_,h=>simp[isP] at h
   |_=>simp[isP] at hP
  erw[id hv,p,us,rfl,hp,x1,r1,rfl,h1,x2,r2,rfl,h2,h3];cases(show r2= [] from h3)
  have U:MO z=v_/\dp z<=60:=by simpa [okS] using hok
  exists 0,p,_,_,0,1,SqT.of hp,1,z,"made",h1,1,(),U.1,U.2,0
  cases c:eqD z (.str "made") with
  |true=>
   refine lj ⟨0,p,_,_,0,1,SqT.of hp,1,x2,e,1,h2,λH' s'=>?_⟩;have:=k H' s';simp![oS,c,Vg] at this;exact this
  |false=>
   refine iW ⟨0,p,_,_,0,1,SqT.of hp,1,(sml rfl),λq hq=>?_⟩;have s1:ie H (upd H q (.tup [.str "leaf",.str "rule"])):=qi hq _
   exists z,q,["leaf","rule"],h1.mono s1.tk,1,.inr (SqT.of qk),(),U.1,U.2,0
   have e2:(["leaf","rule"]:om Str).any (λy=>eqD z (.str y))=(eqD z (.str "leaf")||eqD z (.str "rule")):=by simp
   rw[e2];cases c2:(eqD z (.str "leaf")||eqD z (.str "rule")) with
   |true=>
    refine lj ⟨0,p,_,_,0,1,SqT.of (s1 _ _ hp),1,x2,e,1,h2.mono s1.tk,λH' s'=>?_⟩;have:=k H' (s1.trans s');simp![oS,c,c2,HH,UZ,if_false] at this;exact this
   |false=>
    refine iW ?_;have:=k _ s1;simp![oS,c,c2,T0,UZ,if_false] at this;exact this
def Aj:#[T,1,a.zd,a.XI,["script","k"],(On K)]:=by
 exists 9,T.ix,WS
 erw[h,q,ns,j,rfl,h0,O,k];exists 3,%[#[qK,#[qt,Cj,pv 1,#[qA,qL,T.yh,uH,#v[pv 0]]],%[|#[qv,#[qJ,QN,pv 0,pv 1]]],qx]|#[qv,ql]]
 exists 0,0,q,0,.inl O,_,0,1,0;refine li (λc=>?_) (λc=>?_)
 ·have Z:j<(↑(ns.map V.int):Int):=um c;erw[YB h0 Z,v,U];erw[Ag.mp (jM U),i,_,rfl];exact⟨0,0,q,_,_,0,1,O,U,k _⟩
 ·exact k 0
def CS {y:Str}(h:z.cps.toList=y.cps.toList):z=y:=by
 cases z;cases y;simp at h;rw[h]
nonrec def okN (z:Str):Bool:=(z.cps.toList.map λc=>inS ⟨#[c]⟩ NSG).all id
def ZX (h:nm z=v_):1<=↑z/\↑z<=24:=by
 by_cases c:1<=(↑z:Int)/\(↑z:Int)<=24
 ·omega
 ·rw[Bo c] at h;cases h
nonrec def Nms (zs:om Str):Prop:=(∀z∈zs,nm z=v_)/\zs.Nodup
nonrec def xn (d:D):Prop:=(∃k e,d= .tup [.str k,e])/\oS d=v_/\lw d=v_/\sz d<=306
nonrec def prD (p:Str×D):D:= .tup [.str p.1,p.2]
nonrec def Nr (ps:om (Str×D)):Prop:=Nms (ps.map (·.1))/\∀p∈ps,xn p.2
def D7 (h:okN z=v_):Jh z=true:=by
 unfold Jh;rw[Ur];intro c U;have:=List.all_eq_true.mp h _ (Ag.mpr [c:U:1]);rw[id,Se] at this;have O:∀c∈NSG.cps.toList,QJ c=true:=by decide+kernel
 exact O c (um this)
def MR (h:nm z=v_):okN z=true:=by
 have O:=ZX h;cases h3:inS ⟨#[z.cps.getD 0 0]⟩ LET with
 |false=>rw[Bp h3] at h;cases h
 |true=>
  rw[Ed () () h3] at h
  exact h
def IP (h:nm z=v_):xn (.tup [.str "made",.str z]):=by
 have O:=ZX h;refine⟨[_:0],?_,?_,by simp![sz,szL];show 1+(("made":Str).length+1+(↑z+1+0))<=306;have:("made":Str).length=4:=rfl;omega⟩
 ·show(if eqD (.str "made") (.str "made")=v_ then nm z else(eqD (.str "made") (.str "leaf")||eqD (.str "made") (.str "rule"))&&isT (.str z))=v_
  rw[A6 ()]
  exact h
 ·have:Jh "made"=true:=by decide+kernel
  simp![lw,lwL,this,D7 (MR h)]
  rfl
def IQ {k:Str}{d:D}(O:k="leaf"∨k="rule")(h:isT d=v_)(U:lw d=v_)(hz:sz d<=300):xn (.tup [.str k,d]):=by
 have Z:↑k=4:=by rcases O with rfl|rfl<;>rfl
 refine⟨[_:0],?_,?_,by simp![sz,szL];omega⟩
 ·show(if eqD (.str k) (.str "made")=v_ then mK d else(eqD (.str k) (.str "leaf")||eqD (.str k) (.str "rule"))&&isT d)=v_
  have e1:eqD (.str k) (.str "made")=false:=by rcases O with rfl|rfl<;>decide+kernel
  have e2:(eqD (.str k) (.str "leaf")||eqD (.str k) (.str "rule"))=true:=by rcases O with rfl|rfl<;>decide+kernel
  rw[e1,e2,h]
  rfl
 ·have:Jh k=true:=by
   rcases O with rfl|rfl<;>decide+kernel
  simp![lw,lwL,this,U]
  rfl
def NK {d:D}(h:xn d):okS d=true:=by
 erw[h,[k,e,rfl],_];simp[okS,MO,trD,dp]
def yU (h:↑z<=16000000):Is H (.str z) (.str z):=[1:mt h]
def BF:∀a b c:om Nat,VO b a=Vh->VO c b=Vh->VO c a=Vh
 | [],_,[],_,_=>rfl
 | [],_,_::_,_,_=>rfl
 |x::a,[],_,h,_=>by simp[VO] at h
 |x::a,y::b,[],_,h=>by simp[VO] at h
 |x::a,y::b,z::c,h1,h2=>by
  simp![VO,Tw,rc,decide_eq_false_iff_not,UT,ne_eq] at*;exists ()
  by_cases e:z=x
  ·refine .inr (BF a b c ?_ ?_)
   ·rcases h1.2 with h|h
    ·omega
    ·exact h
   ·rcases h2.2 with h|h
    ·omega
    ·exact h
  ·exact .inl e
def EO:∀a b:om Nat,VO a b=Vh->VO b a=Vh->a=b
 | [],[],_,_=>rfl
 | [],_::_,h,_=>by simp[VO] at h
 |_::_,[],_,h=>by simp[VO] at h
 |x::a,y::b,h1,h2=>by
  simp![VO,Tw,rc,decide_eq_false_iff_not,UT,ne_eq] at*;have e:x=y:=by omega
  subst e;rw[EO a b (by rcases h1.2 with h|h;exact Aa rfl h;exact h) (by rcases h2.2 with h|h;exact Aa rfl h;exact h)]
def nY:∀(l:om Str) (p:Str),risingS p l=v_->(p::l).Pairwise (λa b=>VO b.cps.toList a.cps.toList=Vh)
 | [],p,_=>List.pairwise_singleton ..
 |x::r,p,h=>by
  have h':(!VO x.cps.toList p.cps.toList&&risingS x r)=true:=h;rw[uu,RO] at h';have U:=nY r x h'.2;refine List.pairwise_cons.mpr [λb O=>?_:U];rcases Ac.mp O with rfl|O
  ·exact h'.1
  ·exact BF _ _ _ h'.1 (List.rel_of_pairwise_cons U O)
variable {l:om Str}
def nG (h:Gy l=v_):l.Pairwise (λa b=>VO b.cps.toList a.cps.toList=Vh):=by
 cases l with
 |nil=>exact tV
 |cons x r=>exact nY r x h
def kU {m:om Str}(h1:Gy l=v_)(h2:Gy m=v_)(h:l.Perm m):l=m:=
 pU (λa b _ _ x y=>CS (EO _ _ y x)) (nG h1) (nG h2) h
nonrec def qG (ps:om (Str×D))(z:Str):D:=((ps.find? λp=>decide (p.1=z)).map (·.2)).getD .non
nonrec def Jm (vs:om (Str×V))(z:Str):V:=(iR (iy vs) (Vj z)).getD .non
def wu (p:Str×V)(r:om (Str×V)):iy (p::r)=(Vj p.1,p.2)::iy r:=rfl
def WW {H:Hp}{z:Str}:∀{ps:om (Str×D)}{vs:om (Str×V)},vs.map (·.1)=ps.map (·.1)->IsL H (ps.map (·.2)) (vs.map (·.2))->z∈ps.map (·.1)->iR (iy vs) (Vj z)=u_ (Jm vs z)/\Is H (qG ps z) (Jm vs z)
 | [],_,_,_,h=>nomatch h
 |p::ps,[],e,_,_=>by simp at e
 |p::ps,v::vs,e,hi,hz=>by
  simp![ur,Uh] at e;erw[hi,u,r,e2,h1,h2];simp![ur,Uh] at e2;erw[e2,rfl,rfl];by_cases c:p.1=z
  ·have O:v.1=z:=e.1.trans c;have U:iR (iy (v::vs)) (Vj z)=u_ v.2:=by
    rw[wu];exact QZ (by rw[O])
   have Z:qG (p::ps) z=p.2:=by simp[qG,uQ,c]
   unfold Jm;rw[U,Z];exact[1:h1]
  ·have O:¬v.1=z:=λq=>c (e.1.symm.trans q);have U:iR (iy (v::vs)) (Vj z)=iR (iy vs) (Vj z):=by
    rw[wu];exact QO (λq=>O (UB q))
   have Z:qG (p::ps) z=qG ps z:=by simp[qG,uQ,c]
   have aa:z∈ps.map (·.1):=by
    rcases Ac.mp hz with h|h
    ·exact Aa h.symm c
    ·exact h
   have ih:=WW e.2 h2 aa;unfold Jm at*;rw[U,Z];exact ih
def An {z:Str}:∀{vs:om (Str×V)},z∉vs.map (·.1)->iR (iy vs) (Vj z)=U_
 | [],_=>rfl
 |v::vs,h=>by
  rw[wu,QO (λq=>h (by rw[<-UB q];exact ue ..))]
  exact An λm=>h (uc _ m)
def MC:∀{ps:om (Str×D)},(ps.map (·.1)).Nodup->(ps.map (·.1)).map (λz=>(z,qG ps z))=ps
 | [],_=>rfl
 |p::ps,h=>by
  have h':=List.nodup_cons.mp h;have O:qG (p::ps) p.1=p.2:=by simp[qG,uQ]
  rw[ur,ur,O]
  congr 1
  refine Eq.trans (Uo λz U=>?_) (MC h'.2);have:¬p.1=z:=λq=>h'.1 (by show p.1∈_;rwa[q])
  simp[qG,uQ,this]
nonrec def B7 (ps:om (Str×D))(ms:om Str):om (Str×D):=ms.map λz=>(z,qG ps z)
def KY (ps:om (Str×D))(O:om Str):(B7 ps O).map (·.1)=O:=by
 unfold B7;rw[uN];exact(Uo λ_ _=>rfl).trans (Hr O)
variable {ps:om (Str×D)}
def AJ {O:om Str}(hn:(ps.map (·.1)).Nodup)(h:O.Perm (ps.map (·.1))):(B7 ps O).Perm ps:=by
 have:=h.map λz=>(z,qG ps z);rwa[MC hn] at this
nonrec def jv (C:o6)(H:Hp)(x:o6)(qs:om (Str×D)):Prop:=∃(dx d:o6) (o:Obj) (vs:om (Str×V)),H x=u_ (.ins C dx [("by_name",.ref d)])/\H d=u_ (.frz o (.dK (iy vs)))/\vs.map (·.1)=qs.map (·.1)/\L2.IsL H (qs.map (·.2)) (vs.map (·.2))
variable {qs:om (Str×D)}
def jv.same {x:o6}(h:jv C H x qs)(s:ie H H'):jv C H' x qs:=by
 erw[h,dx,d,o,vs,h1,h2,h3,h4];exact⟨dx,d,o,vs,s _ _ h1,s _ _ h2,h3,h4.mono s.tk⟩
nonrec def QQ (qs:om (Str×D)):Prop:=Nr qs/\Gy (qs.map (·.1))=v_/\↑qs<=60
inductive Of (C:Addr):Sp
 |mk (x dx t:Addr)(ps:List (Str×D))(us:List V)(_:vs= [.ref x,.ref t])(_:H x=u_ (.ins C dx []))(_:H t=u_ (.tup us))(_:L2.IsL H (ps.map prD) us)(_:Nr ps)(_:↑ps<=60)(_:∀(qs:List (Str×D))(H':Hp),(∀b o,H b=u_ o->b≠x->H' b=u_ o)->jv C H' x qs->QQ qs->qs.Perm ps->Q .non H')
def Nms.perm {m:om Str}(h:Nms m)(p:l.Perm m):Nms l:=[λz O=>h.1 z (p.mem_iff.mp O):(p.nodup_iff).mpr h.2]
def sw {d:D}(hn:(ps.map (·.1)).Nodup)(h:(z,d)∈ps):qG ps z=d:=by
 induction ps with
 |nil=>cases h
 |cons p r Z=>
  have O:=List.nodup_cons.mp hn;rcases Ac.mp h with h|h
  ·subst h;simp[qG,uQ]
  ·have:¬p.1=z:=λq=>O.1 (by show p.1∈_;rw[q];exact Ag.mpr [_:h:1])
   have U:=Z O.2 h
   simpa [qG,uQ,this] using U
def Ie (hn:(ps.map (·.1)).Nodup)(h:z∈ps.map (·.1)):(z,qG ps z)∈ps:=by
 erw[Ag.mp h,p,O,rfl];rw[sw hn (show(p.1,p.2)∈ps from O)]
 exact O
def Mb (hn:(ps.map (·.1)).Nodup)(O:qs.Perm ps)(h:z∈ps.map (·.1)):qG qs z=qG ps z:=by
 have U:(qs.map (·.1)).Nodup:=((O.map _).nodup_iff).mpr hn;exact sw U (O.mem_iff.mpr (Ie hn h))
def qan {H:Hp}:∀{ps:om (Str×D)}{us:om V},L2.IsL H (ps.map prD) us->∃(ts:om o6) (vs:om (Str×V)),us=ts.map V.ref/\↑ts=↑vs/\(∀(i:Nat) (t:o6) (p:Str×V),ts[i]? =u_ t->vs[i]? =u_ p->H t=u_ (.tup [.str p.1,p.2]))/\vs.map (·.1)=ps.map (·.1)/\L2.IsL H (ps.map (·.2)) (vs.map (·.2))
 | [],us,h=>⟨[],[],h,1,λi t p h=>by simp at h,1,1⟩
 |p::r,us,h=>by
  erw[h,v,q,rfl,O,h2];erw[O,t,ws,rfl,U,x1,r1,rfl,[rfl,hz],x2,Z,rfl,h4,h5];cases(show Z= [] from h5)
  erw[qan h2,ts,vs,rfl,e1,e2,e3,e4];exists t::ts,(p.1,x2)::vs,1,by simp[e1],λi t' p' h6 h7=>?_,by simp[e3],⟨_,0,h4,e4⟩
  cases i with
  |zero=>
   cases h6;cases h7;exact U
  |succ i=>exact e2 i t' p' (by simpa using h6) (by simpa using h7)
def EG (vs:om (Str×V))(z:Str)(v:V):iy (vs++ [(z,v)])=iy vs++ [(Vj z,v)]:=by
 unfold iy;rw[uh]
 rfl
def Aea {α β:Type}(f:α->β){l:om α}(h:i<↑l):(l.map f)[i]? =u_ (f l[i]):=by
 rw[uD,uf h]
 rfl
def IM {α:Type}{l:om α}(h:i<↑l):l.take (i+1)=l.take i++ [l[i]]:=by
 rw[vb,uf h]
 rfl
def D3:#[T,4,a.jo,a.xI,["self","sources"],(Of a.qQ)]:=by
 have yb:=#[zB,T];have U:=#[DO,T];refine T.kw.F.ok yK () (λ_ _ _ _ H vs Q E hr h=>?_)
 erw[h,x,dx,t,ps,us,rfl,hx,ht,ap,hok,aL,k];have hs:=uw;exists 3,%[#[qD,2,(2),4,yK.nd,rfl,VV rfl,xi,_,_],#[Yh,#[pi_tup,pv 1],#[Du,6,rfl,YD #[qU,(3),yK.nd] (YD #[qU,(4),yK.nd] Kl),_,_],%[#[qK,#[QD,#[Qo,#[qy,yb,T.iA,#v[pv 3]]]],%[|jS],qx],#[qK,#[QD,#[Qo,#[qy,U,T.mP,#v[pv 4]]]],%[|jS],qx],#[qK,#[xF,#[kZ,Qs hr,pv 3,pv 2]],%[|jS],qx],#[qK,#[qt,Qk,#[qA,Ip,T.yh,uH,#v[pv 2]],#[qag,T.m_MOST_NAMES]],%[|jS],qx]|#[YO,pv 2,pv 3,pv 4]]]|#[Qi,#[qR,#[Cu,1,rfl],T.z_dict,Ho,#v[#[zk,["name","by_name"],[2],En (qq Yd) ["self","sources","by_name","name","source"],#[Zd,#[qA,#[sB,1,rfl],T.Z1,Hk,#v[pv 2]]],(λ_ _ _ _ _ _=>#[qU,(0),(show Vy (["name","by_name"]:om Str) by decide+kernel)]),(λ_ _ _ _ _ _=>#[qB,#v[pv 0,#[Ql,6,Qs hr,pv 1,pv 0,(λ_ _=>rfl)]]])]]]]]
 intro d hd;have s1:ie H (upd H d (.dK [])):=qi hd _;have aM:d≠x:=λe=>by rw[e,hx] at hd;cases hd
 have aq:=↑ap;rw[u9] at aq
 exists 5
 refine⟨0,t,1,[_:SqT.of (s1 _ _ ht)],Ww (K:=K) (a:=t) (xs:=us) (λi σ H'=>∃(vs:om (Str×V)) (nv sv:oq V),σ= [u_ (.ref x),u_ (.ref t),u_ (.ref d),nv,sv]/\ie H H'/\H' d=u_ (.dK (iy vs))/\vs.map (·.1)=(ps.take i).map (·.1)/\L2.IsL H' ((ps.take i).map (·.2)) (vs.map (·.2)))
  ⟨[],U_,U_,1,s1,qk,1,1⟩ (λi σ H' _ ⟨_,_,_,_,sm,_⟩=>SqT.of (sm _ _ ht)) ?_ ?_⟩
 ·rintro i y σ H' hi ⟨vs,nv,sv,rfl,sm,ac,hk,hv⟩;have aN:i<↑us:=(Ai.mp hi).1;have Z:i<↑ps:=by omega
  erw[ap.get (Aea prD Z),v,e1,e2];rw[hi] at e1;cases e1;have au:=hok.2 _ (uW Z);have aB:nm ps[i].1=true:=hok.1.1 _ (Ag.mpr [_:uW Z:1]);erw[au,[sk,sd,aO],aC,aP];erw[e2,p,ws,rfl,hp,w1,r1,rfl,[rfl,hz],w2,r2,rfl,h2,h3];cases(show r2= [] from h3)
  have aD:=sm _ _ hp
  exists p,0,SqT.of aD,1,_,0,_,0,1
  exists 0,_,.str ps[i].1,1,[1:hz],λH3 s3=>⟨0,iN (by simp[mK,aB]) ?_⟩
  have aw:Is H3 ps[i].2 w2:=h2.mono (sm.trans s3).tk
  exists 0,w2,ps[i].2,1,aw,NK (hok.2 _ (uW Z)),λH4 s4=>⟨0,iN (by rw[aC];rfl) ?_⟩
  have af:=s3.trans s4;have ad:=af _ _ ac;have nk:ps[i].1∉vs.map (·.1):=by
   rw[hk];have aa:=hok.1.2;have e:ps.map (·.1)=(ps.take i).map (·.1)++ps[i].1::(ps.drop (i+1)).map (·.1):=by
    rw[<-ur (f:=λx:Str×D=>x.1),<-vm Z,<-uh,tG]
   rw[e,Tp] at aa;exact λm=>aa.2.2 _ m _ (ue ..) rfl
  have ev:=An nk;have aE:↑vs=i:=by
   have:=Ab VC hk;rw[u9,u9,vw] at this;omega
  exists 0,0,d,0,mx.k (k:=Vj ps[i].1) ad,0,iN (by rw[ev];rfl) ?_
  exists 0,d,0,ad,1,0,iN (ub λq=>?_) ?_
  ·have:=V.int.inj q;unfold iy at this;rw[u9] at this;omega
  ·have aF:↑(iy vs)<sizeLine:=by
    unfold iy;rw[u9];omega
   exists 0,0,0,d,0,BZ.k (k:=Vj ps[i].1) ad aF;have tk:Tk H4 (upd H4 d (.dK (lY (iy vs) (Vj ps[i].1) w2))):=Tk.updD ad
   exists vs++ [(ps[i].1,w2)],_,0,?_,?_,?_,?_
   ·intro b o e;rw[qm (qo e hd)];exact(sm.trans af) _ _ e
   ·rw[qk,Kj _ ev,EG]
   ·rw[IM Z,uh,uh,hk]
    rfl
   ·rw[IM Z,uh,uh];exact(((hv.mono af.tk).mono tk)).append (L2.IsL.one ((aw.mono s4.tk).mono tk))
 ·rintro σ H1 ⟨vs,nv,sv,rfl,sm,ac,hk,hv⟩;rw[aq,vy] at hk hv;have aE:↑vs=↑ps:=by
   have:=Ab VC hk
   rwa[u9,u9] at this
  have ag:(iy vs).map (·.1)=(ps.map (·.1)).map Sum.inr:=by rw[Z9,hk]
  exists 5
  refine⟨0,d,iy vs,ps.map (·.1),1,ac,ag,by rw[u9];omega,λms q O ah hq=>⟨q,1,[_:SqL.of qk],λA0 ak=>?_⟩⟩
  have s2:ie H1 (upd H1 q (.lst (ms.map V.str))):=qi hq _;have aQ:↑ms=↑ps:=by
   have:=O.length_eq
   rwa[u9] at this
  refine PV (K:=K) (tl:= [u_ (.ref d)]) (λi ys H'=>∃ts:om o6,ys=ts.map V.ref/\↑ts=i/\ie H1 H'/\H' A0=u_ (.lst ys)/\∀(j:Nat) (t:o6) (z:Str),ts[j]? =u_ t->ms[j]? =u_ z->H' t=u_ (.tup [.str z,Jm vs z])) qk () ak
   ⟨[],1,1,s2.trans (qi ak _),qk,λj t z h=>by simp at h⟩ ?_ ?_
  ·rintro i z ys H' hz ⟨ts,rfl,ae,s3,hA,al⟩ _ _ _ R r;have aG:z∈ps.map (·.1):=O.mem_iff.mp (uK hz);have lk:=WW hk hv aG
   exists 0,0,0,d,Jm vs z,1,?_,(sml rfl),λt2 am=>?_
   ·have:=mx.k (k:=Vj z) (s3 _ _ ac);rwa[lk.1] at this
   ·have s4:=qi am (.tup [V.str z,Jm vs z]);have aH:t2≠A0:=λe=>by rw[e,hA] at am;cases am
    refine r _ _ (s4 _ _ hA) (s4 _ _ (by assumption)) ⟨ts++ [t2],by rw[uh];rfl,by rw[uq,ae];rfl,?_,qk,?_⟩
    ·intro b o e;have nb:b≠A0:=qo (s2 _ _ e) ak;rw[qm nb];exact s4 _ _ (s3 _ _ e)
    ·intro j t z' h1 h2;rcases UV j i with hj|hj
     ·rw[UO ()] at h1
      have:=al j t z' h1 h2;have nb:t≠A0:=λe=>by rw[e,hA] at this;cases this
      rw[qm nb];exact s4 _ _ this
     ·have aI:j=i:=by
       have:=(Ai.mp h1).1;rw[uq] at this;have:j<↑ts+1:=this;omega
      subst aI;rw[hz] at h2;cases h2;rw[UM (),ae,Nat.sub_self] at h1
      cases h1;rw[qm aH];exact qk
  ·rintro ys H2 ⟨ts,rfl,ae,s3,hA,al⟩ _;have aa:=hok.1.2;have aJ:ms.Nodup:=O.nodup_iff.mpr aa;have ax:(ms.map λz=>(z,Jm vs z)).map (·.1)=ms:=by
    rw[uN];exact(Uo λ_ _=>rfl).trans (Hr ms)
   exists 5
   refine⟨A0,ms.map λz=>(z,Jm vs z),1,⟨ts,hA,by rwa[u9],λj t p h1 h2=>?_⟩,by rwa[ax],by rw[u9];omega,λq2 o ao=>?_⟩
   ·rw[uD] at h2;cases h3:ms[j]? with
    |none=>rw[h3] at h2;cases h2
    |some z=>
     rw[h3] at h2;cases h2;exact al j t z h1 h3
   ·have s4:=qi ao (.frz o (.dK (iy (ms.map λz=>(z,Jm vs z)))));have ay:H1 x=u_ (.ins a.qQ dx []):=sm _ _ hx;have aA:=s4 _ _ (s3 _ _ ay);have nq:q2≠x:=λe=>by rw[e,s3 _ _ ay] at ao;cases ao
    exists 0,x,a.qQ,dx,[],1,aA,T.YK,T.yc,(by show 0<1000;decide)
    refine k (B7 ps ms) _ ?_ ⟨dx,q2,o,ms.map λz=>(z,Jm vs z),qk,by rw[qm nq];exact qk,by rw[ax,KY],?_⟩ ⟨[?_:?_],by rwa[KY],by unfold B7;rw[u9];omega⟩ (AJ aa O)
    ·intro b ob e nb;rw[qm nb];exact s4 _ _ (s3 _ _ (sm _ _ e))
    ·have tk:Tk H1 (upd (upd H2 q2 (.frz o (.dK (iy (ms.map λz=>(z,Jm vs z)))))) x (.ins a.qQ dx (iG "by_name" (.ref q2) []))):=(s3.trans s4).tk.trans (Tk.updI aA);have aK:∀l:om Str,(∀z∈l,z∈ps.map (·.1))->L2.IsL H1 ((B7 ps l).map (·.2)) ((l.map λz=>(z,Jm vs z)).map (·.2)):=by
      intro l
      induction l with
      |nil=>exact λ_=>rfl
      |cons z r ih=>exact λh=>⟨_,0,(WW hk hv (h z (ue ..))).2,ih λy hy=>h y (uc _ hy)⟩
     exact(aK ms λz hz=>O.mem_iff.mp hz).mono tk
    ·rw[KY];exact hok.1.perm O
    ·intro p hp;exact hok.2 p ((AJ aa O).mem_iff.mp hp)
def EU:VJ ("by_name":Str) [(("by_name":Str),v)]=u_ v:=by simp[VJ]
def ZK:VJ ("source_of":Str) [(("by_name":Str),v)]=none:=by
 have:(("source_of":Str)=="by_name")=false:=by decide+kernel
 simp[VJ,this]
inductive Wl (C:Addr):Sp
 |mk (x:Addr)(z:Str)(qs:List (Str×D))(_:vs= [.ref x,.str z])(_:jv C H x qs)(_:∀v:V,(z∈qs.map (·.1)->Is H (qG qs z) v)->(z∉qs.map (·.1)->v= .non)->Q v H)
def Wq:#[T,1,a.YM,a.YY,["self","name"],(Wl a.qQ)]:=by
 refine T.iH.F.ok xv () (λ_ _ _ _ H vs Q E U h=>?_)
 erw[h,x,z,qs,rfl,[dx,d,o,vs,Z,hd,O,hv],k];exists 3,%[|#[qv,#[Bg,7,Qs U,#[qT,5,pv 0,rfl],pv 1,⟨1,1,1,1⟩]]]
 exists 0,x,a.qQ,dx,_,0,Z,T.YK,T.yc,EU,d,1,.inl [_:.inr [o:hd]],0,_,.inl ⟨_,Vj z,.inr [o:hd],1,1⟩;refine k _ (λc=>?_) λc=>?_
 ·exact(WW O hv c).2
 ·rw[An (by rwa[O])]
  rfl
nonrec def sL (zs:om Str):D:= .tup (zs.map D.str)
nonrec def sM (acc:om Str):om Str->om Str
 | []=>acc
 |z::r=>if isT (sL (acc++ [z]))=v_ then sM (acc++ [z]) r else acc
inductive W2 (K:PySem.W.Frag):Sp
 |mk (L:Addr)(zs:List Str)(_:vs= [.ref L])(_:H L=u_ (.lst (zs.map V.str)))(_:(∀z∈zs,↑z<=100))(_:↑zs<=100)(_:∀(v:V)(H':Hp),ie H H'->Is H' (sL (sM [] zs)) v->Q v H')
variable {xs:om V}{Q:VK}
def Adb {K:o0}{a:o6}{x:V}(ha:H a=u_ (.tup xs))(O:↑xs+1<=Vl)(k:∀p H',ie H H'->H' p=u_ (.tup (xs++ [x]))->Q (.ref p) H'):
  [x].length<=Vl/\∀q,H q=U_->Lk K (.ref a) (.ref q) (upd H q (.tup [x])) Q:=by
 exists sml rfl,λq U=>?_;have s1:ie H (upd H q (.tup [x])):=qi U _;exists a,q,xs,[x],1,1,SqT.of (s1 _ _ ha),SqT.of qk,O,λe=>?_,(λ_ e=>by cases e),λ_ _ p Z=>?_
 ·refine k q _ s1 ?_;rw[e];exact qk
 ·exact k p _ (s1.trans (qi Z _)) qk
variable {zs:om Str}{p:o6}
def EA (h:H p=u_ (.tup (zs.map V.str)))(U:∀z∈zs,↑z<=100):Is H (sL zs) (.ref p):=by
 have O:∀(zs:om Str),(∀z∈zs,↑z<=100)->IsL H (zs.map D.str) (zs.map V.str):=by
  intro zs
  induction zs with
  |nil=>exact λ_=>rfl
  |cons z r Z=>
   intro h;exact⟨_,0,⟨1,mt (by have:=h z (ue ..);omega)⟩,Z λy hy=>h y (uc _ hy)⟩
 exact⟨p,0,h,O zs U⟩
def AW:∀(zs O:om Str) (z:Str),z∈sM O zs->z∈O∨z∈zs
 | [],O,z,h=> .inl h
 |y::r,O,z,h=>by
  unfold sM at h;split at h
  ·rcases AW r _ z h with h|h
   ·rcases Af.mp h with h|h
    ·exact .inl h
    ·exact .inr (by rw[Ae.mp h];exact ue ..)
   ·exact .inr (uc _ h)
  ·exact .inl h
inductive Dc (C:Addr):Sp
 |mk (x t:Addr)(kind text:Str)(qs:List (Str×D))(_:vs= [.ref x,.ref t])(_:jv C H x qs)(_:QQ qs)(_:H t=u_ (.tup [.str kind,.str text]))(_:↑text<=1000)(_:((kind="has"/\Q (.str (if text∈qs.map (·.1) then "yes" else "no")) H)∨(kind="names"/\∀(v:V)(H':Hp),ie H H'->Is H' (sL (sM [] ((qs.map (·.1)).filter λz=>VA z text))) v->Q v H')))
def At {vs:om (Str×V)}(O:vs.map (·.1)=qs.map (·.1))(hi:L2.IsL H (qs.map (·.2)) (vs.map (·.2)))(z:Str):(iR (iy vs) (Vj z)).isSome=decide (z∈qs.map (·.1)):=by
 by_cases c:z∈qs.map (·.1)
 ·rw[(WW O hi c).1,A9 c]
  rfl
 ·rw[An (by rw[O];exact c),ub c]
  rfl
def Ck:#[T,3,a.zu,a.X3,["names"],(W2 K)]:=by
 have yJ:=#[jG,T];exists 9,T.ml,Ye
 erw[h,L,zs,rfl,hL,hz,hn,k];have hs:=uw;exists 3,%[#[qD,(1),Ye.nd,#[qB,qh]],#[Yh,#[Zd,pv 0],#[qU,(2),Ye.nd],%[#[qK,#[QD,#[Qo,#[qy,yJ,T.iD,#v[#[qS,Xg,pv 1,#[qB,#v[pv 2]]]]]]],%[|Ll],qx]|#[qD,(1),Ye.nd,#[qS,Xg,pv 1,#[qB,#v[pv 2]]]]]]|#[qv,pv 1]]
 exists (sml rfl),λq hq=>?_;have s1:ie H (upd H q (.tup [])):=qi hq _
 exists 5
 refine⟨0,L,1,[_:SqL.of (s1 _ _ hL)],XS (K:=K) (a:=L) (xs:=zs.map V.str) (λi σ H'=>∃(row:om Str) (p:o6) (kv:oq V),σ= [u_ (.ref L),u_ (.ref p),kv]/\H' p=u_ (.tup (row.map V.str))/\ie H H'/\sM row (zs.drop i)=sM [] zs/\↑row<=i/\∀z∈row,z∈zs)
  ⟨[],q,U_,1,qk,s1,1,ug _,λz h=>nomatch h⟩ (λi σ H' _ ⟨_,_,_,_,_,s2,_⟩=>SqL.of (s2 _ _ hL)) ?_ ?_⟩
 ·rintro i x σ H' hi ⟨row,p,kv,rfl,Z,s2,O,hl,hm⟩;have U:i<↑zs:=by
   have:=(Ai.mp hi).1
   simpa using this
  obtain rfl:x=V.str zs[i]:=by
   rw[uD,uf U] at hi;exact(uF hi).symm
  have ed:zs.drop i=zs[i]::zs.drop (i+1):=vm U;rw[ed] at O;rw[show sM row (zs[i]::zs.drop (i+1))=if isT (sL (row++ [zs[i]]))=v_ then sM (row++ [zs[i]]) (zs.drop (i+1)) else row from rfl] at O
  have aa:∀z∈row++ [zs[i]],z∈zs:=λz h=>by
   rcases Af.mp h with h|h
   ·exact hm z h
   ·rw[Ae.mp h];exact uW U
  have hsz:↑(row.map V.str)+1<=sizeLine:=by rw[u9];omega
  have em:row.map V.str++ [V.str zs[i]]=(row++ [zs[i]]).map V.str:=by simp
  exists 0,0,Adb Z hsz λp2 H3 s3 h3=>⟨_,sL (row++ [zs[i]]),1,EA (by rw[h3,em]) λz h=>hz z (aa z h),λH4 s4=>[0:?_]⟩
  cases hT:isT (sL (row++ [zs[i]])) with
  |false=>
   rw[A4 (by rw[hT];exact ua)] at O
   refine lj [0:k _ H4 ((s2.trans s3).trans s4) ?_];rw[<-O];exact EA (s4 _ _ (s3 _ _ Z)) λz h=>hz z (hm z h)
  |true=>
   rw[A6 hT] at O;refine iW [0:0:Adb (s4 _ _ (s3 _ _ Z)) hsz λp5 H5 s5 h5=>?_];exact⟨row++ [zs[i]],p5,0,by rw[h5,em],((s2.trans s3).trans s4).trans s5,O,by rw[uq];show ↑row+1<=i+1;omega,aa⟩
 ·rintro σ H' ⟨row,p,kv,rfl,Z,s2,O,hl,hm⟩
  exists 0,k _ H' s2 ?_;rw[u9,List.drop_length] at O;rw[<-O];exact EA Z λz h=>hz z (hm z h)
def DZ:#[T,4,a.YS,a.YQ,["self","ask"],(Dc a.qQ)]:=by
 have U:=#[Ck,T];refine T.iS.F.ok xo () (λ_ _ _ _ H vs Q E hr h=>?_)
 erw[h,x,t,kind,text,qs,rfl,[dx,d,o,vs,hx,hd,hk,hv],Z,ht,ad,h];have hs:=uw;exists 3,%[#[qK,#[qt,Qk,#[qJ,qI,pv 1,ql],qp],%[|#[qv,#[ym,#[xF,#[kZ,Qs hr,#[qJ,qI,pv 1,ql],#[qT,5,pv 0,rfl]]],qp,qp]]],qx]|#[qv,#[qy,U,T.ml,#v[#[zk,2,["name","ask"],(1),[1],9,En (qq QW) ["self","ask"],rfl,#[wn,#[qT,5,pv 0,rfl]],(λ_ _ _ _ _ _=>#[qU,(0),(show Vy (["name","ask"]:om Str) by decide+kernel)]),(λ_ _ _ _ _ _=>#[sX,3,#[Qo,#[AaH,1,K,11,rfl,uV,PySem.F.slot_str_startswith,PySem.F.type_str_startswith,Eh,pv 0,#v[#[qJ,#[Sa,1,K,rfl],pv 1,ql]],_,_,_,_,_]]]),(λ_ _ _ _ _ _=>(pv 0)),_]]]]]
 exists 0,t,_,_,0,1,SqT.of ht,1,1,0;rcases h with⟨rfl,k⟩|⟨rfl,k⟩
 ·refine lh (A9 rfl) ?_
  exists 0,t,_,_,0,1,SqT.of ht,1,0,x,a.qQ,dx,_,0,hx,T.YK,T.yc,EU,d,0,.inl ⟨_,Vj text,.inr [o:hd],1,1⟩,0;rw[At hk hv];by_cases c:text∈qs.map (·.1)
  ·rw[A6 c] at k;exact lh (A9 c) k
  ·rw[A4 c] at k;exact iN (ub c) k
 ·refine iN () ?_
  have O:(iy vs).map (·.1)=(qs.map (·.1)).map Sum.inr:=by rw[Z9,hk]
  exists 0,x,a.qQ,dx,_,0,hx,T.YK,T.yc,EU,d,o,0,hd,λA0 aa=>?_;refine Eo (tl:= [u_ (.ref t)]) (λz=>VA z text) V.str hd O (by rw[u9];have:=Z.2.2;omega) aa (λz H1 R hz s1 r=>?_) (λz H1 R hz s1 r=>[0:r]) λH1 s1 h1=>?_
  ·exact⟨0,1,0,t,_,_,0,1,SqT.of (s1 _ _ ht),1,z,text,1,1,0,r⟩
  ·exists A0,0,h1,λz hz=>?_,?_,λv H2 s2 ac=>k v H2 (s1.trans s2) ac
   ·have:=ZX (Z.1.1.1 z (Ah.mp hz).1);omega
   ·have:=vP (λz=>VA z text) (qs.map (·.1));rw[u9] at this;have:=Z.2.2;omega
nonrec def XG:D->Bool
 | .non=>v_
 |_=>Vh
nonrec def wm:D->D
 | .tup [_,d]=>d
 |d=>d
nonrec def Jk (d:D):Prop:=d= .non∨isT d=v_
nonrec def Gd (d:D):Prop:=iO d=v_/\dp d<=20
def Abi:∀z∈(["kind","big","told","silent","long","name"]:om Str),iO (flt z)=true:=by decide+kernel
def Nc (h:z∈(["kind","big","told","silent","long","name"]:om Str)):Gd (flt z):=⟨Abi z h,by show dp (.tup [.str "fault",.str z])<=20;simp[dp,dpL]⟩
def Abh {u:Str}{d:D}(O:Qz u=v_)(h:isT d=v_):Gd (.tup [.str u,d]):=by
 have U:=yl h;have hd:=Ws h;exists ?_,?_
 ·simp![iO,goodL,O,U,Um]
  rfl
 ·simp![dp,dpL];omega
def BG {u w:Str}{d:D}(O:Qz u=v_)(U:Qz w=v_)(h:isT d=v_):Gd (.tup [.str u,.tup [.str w,d]]):=by
 have Z:=yl h;have hd:=Ws h;exists ?_,?_
 ·simp![iO,goodL,O,U,Z,Um]
  rfl
 ·simp![dp,dpL];omega
def Oy {B:Str->D}{p:Int}(hr:Jj n 300 r)(h:Tr B)(O:mF own r B p= .stop e):Gd e:=by
 unfold mF at O;erw[id hr,ks,hk,hp];erw[r,U,ps];by_cases c1:U∈MKR
 ·rw[A6 c1] at O;simp only at O;generalize made U B own ps=dm at O;have aa:(if isT dm=v_ then Out.go (AR B (b0 ps) dm) (p+1) else .stop (flt "big"))= .stop e->Gd e:=by
   intro hq;by_cases c:isT dm=v_
   ·rw[A6 c] at hq;cases hq
   ·rw[A4 c] at hq;cases hq;exact Nc ()
  cases dm with
  |non=>cases O;exact Nc ()
  |_=>exact aa O
 rw[A4 c1] at O;by_cases c2:U∈ASK
 ·rw[A6 c2] at O;cases O;erw[wT _ hk c2,_,_,Z];simp only at Z;subst Z;erw[wB hp,z0,z1,rfl,h0,h1];have hT:=h z1 h1;show Gd (sI U (B z1));unfold sI;by_cases d1:U="names"
  ·rw[A6 d1];by_cases d2:isStr (B z1)=v_
   ·rw[A6 d2];exact BG () () hT
   ·rw[A4 d2];exact Nc ()
  ·rw[A4 d1];by_cases d2:mK (B z1)=v_
   ·rw[A6 d2];refine BG () ?_ hT
    split<;>decide+kernel
   ·rw[A4 d2];exact Nc ()
 rw[A4 c2] at O;by_cases c3:U="say"
 ·rw[A6 c3] at O;cases O;subst c3;have Z:=Au _ hk rfl;simp only at Z;subst Z;erw[Acu hp,z0,rfl,h0];exact Abh () (h z0 h0)
 rw[A4 c3] at O;by_cases c4:U="fault"
 ·rw[A6 c4] at O;cases O;exact Nc ()
 rw[A4 c4] at O;by_cases c5:MY U B ps=v_
 ·rw[A6 c5] at O;cases O
 ·rw[A4 c5] at O;cases O
nonrec def mS (rs:om Rw)(own:Str)(r:Rn)(a:D):Rn:=if XG a=v_ then⟨r.B,r.p,r.n+1,r.gs++ [.tup [wm r.th,a]],flt "lack"⟩ else mJ rs own (r.gs++ [.tup [wm r.th,a]]) (300-(r.n+1)) (AR r.B (b0 (Jl rs r.p).2) a) (r.p+1) (r.n+1)
structure Nq (rs:om Rw)(r:Rn):Prop where
 tr:Tr r.B
 p1:1<=r.p
 p2:r.p<=↑rs+1
 n:r.n<=300
 gd:Gd r.th
 two:∃w e,r.th= .tup [.str w,e]
 gs:nL r.gs=v_/\dpL r.gs<=30/\↑r.gs<=r.n
 ask:QP r.th=v_->r.p<=↑rs/\(Jl rs r.p).1∈ASK/\r.n<300/\∃(u:Str) (d:D),r.th= .tup [.str "asks",.tup [.str u,d]]/\u∈(["thing","has","names"]:om Str)/\isT d=v_
mutual
theorem BC:∀{d:D},iO d=v_->nD d=v_
 | .str _,_=>rfl
 | .tup xs,h=>by
  simp![iO,uu] at h;simp![nD];exact goodL_n h.2
 | .non,h=>by simp[iO] at h
 | .bl _,h=>by simp[iO] at h
 | .int _,h=>by simp[iO] at h
 | .lst,h=>by simp[iO] at h
 | .dct,h=>by simp[iO] at h
theorem goodL_n:∀{ds:om D},goodL ds=v_->nL ds=v_
 | [],_=>rfl
 |d::ds,h=>by
  simp![goodL,uu] at h;simp![nL];rw[BC h.1,goodL_n h.2]
  rfl
end
def MS:∀{xs ys:om D},nL xs=v_->nL ys=v_->nL (xs++ys)=v_
 | [],_,_,h=>h
 |x::xs,ys,h,h2=>by
  simp![nL,uu] at h;simp![U4,nL];rw[h.1,MS h.2 h2]
  rfl
def So (n:Nat){xs ys:om D}(h:dpL xs<=n)(h2:dpL ys<=n):dpL (xs++ys)<=n:=by
 rw[zr] at h h2⊢;intro x O;rcases Af.mp O with O|O
 ·exact h x O
 ·exact h2 x O
def Li {B:Str->D}{p:Int}(hr:Jj n 300 r)(h:Tr B)(O:mF own r B p= .stop e)(U:QP e=v_):r.1∈ASK/\∃(u:Str) (d:D),e= .tup [.str "asks",.tup [.str u,d]]/\u∈(["thing","has","names"]:om Str)/\isT d=true:=by
 unfold mF at O;erw[id hr,ks,hk,hp];erw[r,Z,ps];by_cases c1:Z∈MKR
 ·rw[A6 c1] at O;simp only at O;generalize made Z B own ps=dm at O;have aa:(if isT dm=v_ then Out.go (AR B (b0 ps) dm) (p+1) else .stop (flt "big"))= .stop e->False:=by
   intro hq;by_cases c:isT dm=v_
   ·rw[A6 c] at hq;cases hq
   ·rw[A4 c] at hq;cases hq;exact Aa U ()
  cases dm with
  |non=>cases O;exact Aa U ()
  |_=>exact(aa O).elim
 rw[A4 c1] at O;by_cases c2:Z∈ASK
 ·rw[A6 c2] at O;cases O;exists c2;erw[wT _ hk c2,_,_,ek];simp only at ek;subst ek;erw[wB hp,z0,z1,rfl,h0,h1];have hT:=h z1 h1;have U:QP (sI Z (B z1))=true:=U;show∃u d,sI Z (B z1)=_/\_;unfold sI at U⊢;by_cases d1:Z="names"
  ·rw[A6 d1] at U⊢;by_cases d2:isStr (B z1)=v_
   ·rw[A6 d2];exact⟨_,0,(),hT⟩
   ·rw[A4 d2] at U;exact Aa U ()
  ·rw[A4 d1] at U⊢;by_cases d2:mK (B z1)=v_
   ·rw[A6 d2];exact⟨_,0,by split<;>decide+kernel,hT⟩
   ·rw[A4 d2] at U;exact Aa U ()
 rw[A4 c2] at O;by_cases c3:Z="say"
 ·rw[A6 c3] at O;cases O;exact Aa U (by simp![QP];exact λh=>Aa (um h) ())
 rw[A4 c3] at O;by_cases c4:Z="fault"
 ·rw[A6 c4] at O;cases O;exact Aa U ()
 rw[A4 c4] at O;by_cases c5:MY Z B ps=v_
 ·rw[A6 c5] at O;cases O
 ·rw[A4 c5] at O;cases O
def sT {rs:om Rw}{own:Str}(hR:yj rs):∀(f:Nat) (B:Str->D) (p:Int) (n:Nat) (gs:om D),f+n=300->Tr B->1<=p->p<=↑rs+1->nL gs=v_/\dpL gs<=30/\↑gs<=n->Nq rs (mJ rs own gs f B p n)
 |0,B,p,n,gs,hf,hT,h1,h2,hg=>by
  have U:QP (if p>↑rs then flt "silent" else flt "long")=false:=by split<;>decide+kernel
  refine⟨hT,h1,h2,by show n<=300;omega,?_,?_,hg,λh=>Aa (U.symm.trans h) ()⟩
  ·show Gd (if p>↑rs then flt "silent" else flt "long")
   split
   ·exact Nc ()
   ·exact Nc ()
  ·show∃w e,(if p>↑rs then flt "silent" else flt "long")=_
   split
   ·exact[_:0]
   ·exact[_:0]
 |f+1,B,p,n,gs,hf,hT,h1,h2,hg=>by
  unfold mJ;by_cases c:p>↑rs
  ·rw[A6 c];exact⟨hT,h1,h2,by show n<=300;omega,Nc (),[_:0],hg,λh=>Aa h (show¬QP (flt "silent")=v_ by decide+kernel)⟩
  ·rw[A4 c];have O:=hR.ok _ (Kn h1 ())
   have hok:=sV (own:=own) O hT h1 ()
   cases Z:mF own (Jl rs p) B p with
   |go B' p'=>
    rw[Z] at hok;exact sT hR f B' p' (n+1) gs () hok.1 hok.2.1 hok.2.2 ⟨hg.1,hg.2.1,by have:=hg.2.2;omega⟩
   |stop e=>
    rw[Z] at hok;simp only;exists hT,h1,h2,?_,Oy O hT Z,hok,[hg.1:hg.2.1:?_],λU=>?_
    ·show(if QP e=v_ then n else n+1)<=300
     split<;>omega
    ·show ↑gs<=(if QP e=v_ then n else n+1)
     have:=hg.2.2;split<;>omega
    ·erw[Li O hT Z U,a1,u,d,a2,a3,a4];refine⟨by show p<=↑rs;omega,a1,?_,u,d,a2,a3,a4⟩
     show(if QP e=v_ then n else n+1)<300
     rw[A6 (show QP e=v_ from U)]
     omega
def Iy (Z:yj rs){r:Rn}{a:D}(h:Nq rs r)(hw:QP r.th=v_)(ha:Jk a):Nq rs (mS rs own r a):=by
 erw[h.ask hw,k1,k2,k3,u,d,e,k4,k5];have O:nD a=v_/\dp a<=12:=by
  rcases ha with rfl|ha
  ·exact⟨1,by simp[dp]⟩
  ·exact[BC (yl ha):Ws ha]
 have aa:=Ws k5;have U:nL (r.gs++ [D.tup [wm r.th,a]])=v_/\dpL (r.gs++ [D.tup [wm r.th,a]])<=30/\↑(r.gs++ [D.tup [wm r.th,a]])<=r.n+1:=by
  rw[e];show nL (r.gs++ [.tup [.tup [.str u,d],a]])=v_/\_;exists MS h.gs.1 ?_,So 30 h.gs.2.1 ?_,?_
  ·simp![nL,nD,BC (yl k5),O.1,Um]
  ·show dpL [.tup [.tup [.str u,d],a]]<=30;simp![dpL,dp];have:=O.2;omega
  ·rw[uq];have:=h.gs.2.2;show ↑r.gs+1<=r.n+1;omega
 unfold mS;cases hn:XG a with
 |true=>
  rw[A6 rfl];exact⟨h.tr,h.p1,h.p2,by show r.n+1<=300;omega,⟨(by decide+kernel:iO (flt "lack")=v_),by show dp (.tup [.str "fault",.str "lack"])<=20;simp[dp,dpL]⟩,[_:0],U,λh=>Aa h (show¬QP (flt "lack")=v_ by decide+kernel)⟩
 |false=>
  rw[A4 ua];have hT:isT a=true:=by
   rcases ha with rfl|ha
   ·cases hn
   ·exact ha
  refine sT Z _ _ _ _ _ () (Km h.tr hT) (by have:=h.p1;omega) () U
def zK {d:D}{u:V}(O:Is H d u)(U:d≠ .non):u≠ .non:=by
 rintro rfl;cases d with
 |non=>exact U rfl
 |bl b=>cases(show V.non= .bl b from O)
 |int i=>cases(show V.non= .int i from O)
 |str z=>erw[O,h,_];cases h
 |lst=>erw[O,_,_,h,_];cases h
 |dct=>erw[O,_,_,h,_];cases h
 |tup xs=>erw[O,_,_,h,_];cases h
def AbC (O:Jj n 300 r)(hs:r.1∈ASK):∃U z1,r.2= [.s U,.s z1]/\U∈BX:=by
 erw[id O,ks,hk,hp];erw[wT _ hk hs,_,_,Z];simp only at Z;subst Z;erw[wB hp,x,y,e,hx,hy];exact⟨x,y,e,hx⟩
nonrec def LU:D->Bool
 | .tup xs=>xs.all mK
 |_=>Vh
nonrec def Cw (u:Str)(a:D):Bool:=if XG a=v_ then decide (u="thing") else if isT a=v_ then(if u="has" then(["yes","no"]:om Str).any (λz=>eqD a (.str z)) else decide (u="thing")||LU a) else Vh
def Iz {u:Str}{a:D}(h:Cw u a=v_):Jk a:=by
 unfold Cw at h;cases hn:XG a with
 |true=>
  cases a with
  |non=>exact .inl rfl
  |_=>cases hn
 |false=>
  rw[hn,A4 ua] at h;by_cases c:isT a=v_
  ·exact .inr c
  ·rw[A4 c] at h;cases h
inductive NR:Sp
 |mk (v:V)(d:D)(_:vs= [v])(_:Is H d v)(_:isT d=v_)(_:∀H',ie H H'->Q (.bl (LU d)) H')
inductive IX:Sp
 |mk (v1 v2:V)(u:Str)(d a:D)(_:vs= [v1,v2])(_:Is H (.tup [.str u,d]) v1)(_:Is H a v2)(_:∀H',ie H H'->Q (.bl (Cw u a)) H')
inductive Aal (C:Addr):Sp
 |mk (m:Mc)(r:Rn)(v:V)(u:Str)(d a:D)(_:vs= [.ref m.x,v])(_:yR C H m r)(_:Nq m.rs r)(_:r.th= .tup [.str "asks",.tup [.str u,d]])(_:Is H a v)(_:yj m.rs)(_:↑m.own<=100)(_:Cw u a=v_)(_:∀H',Mv m H H'->yR C H' m (mS m.rs m.own r a)->Q .non H')
def O1:#[T,2,a.jB,a.jE,["tree"],NR]:=by
 have yb:=#[zB,T];refine T.iF.F.ok XV () (λ_ _ _ _ H vs Q E hr h=>?_)
 erw[h,v,d,rfl,iv,hT,k];exists 3,%[|#[qv,#[Bh,7,#[qA,#[qZ,2,rfl],T.qY,uY,#v[pv 0,#[Q7,.ty "tuple",T.Qr,vc]]],#[pe_one,#[qA,#[WE,1,rfl],T.z_all,Tc,#v[#[zk,["part"],[],PU,#[KS,4,pv 0],(λ_ _ _ _ _ _=>#[qU,(0),(show Vy (["part"]:om Str) by decide+kernel)]),(λ_ _ _ _ _ _=>#[qy,yb,T.iA,#v[pv 0]])]]]]]]]
 exists 0,v,"tuple",tyD d,XO d,1,iv.ty,JS _;cases d with
 |tup xs=>
  exists 0,lj ?_;erw[iv,a0,vs,rfl,O,U];have hl:↑xs<=1000:=by
   have hg:=yl hT;simp![iO,uu] at hg;have:=um hg.1;omega
  exists 0,a0,vs,1,SqT.of O,λaa A0 Z=>?_;refine Ao (tl:= []) (λd=> .bl (mK d)) O U (Q6 hl) Z (λd0 x0 H3 R ac s3 i3 r=>?_) λH1 ys s1 l1 i1=>?_
  ·exact⟨0,x0,d0,1,i3,λH4 s4=>r _ H4 s4 rfl⟩
  have ey:ys=(xs.map mK).map V.bl:=IsL.bls (by rwa[uN])
  exists A0,xs.map mK,1,SqL.of (by rw[l1,ey])
  have:(xs.map mK).all id=LU (.tup xs):=by rw[Ul];rfl
  rw[this];exact k H1 s1
 |str z=>exact[0:iW (k H (ie.refl _))]
 |non=>exact[0:iW (k H (ie.refl _))]
 |int z=>exact[0:iW (k H (ie.refl _))]
 |bl z=>exact[0:iW (k H (ie.refl _))]
 |lst=>exact[0:iW (k H (ie.refl _))]
 |dct=>exact[0:iW (k H (ie.refl _))]
def Ly:#[T,3,a.wH,a.wq,["ask","answer"],IX]:=by
 have yJ:=#[jG,T];have zA:=#[O1,T];exists 9,T.mQ,nR,Z
 erw[h,v1,v2,u,d,an,rfl,i1,U,k];exists 3,%[#[qK,#[qt,YA,pv 1,Qe],%[|#[qv,#[YZ,Qk,#[qJ,JI,pv 0,ql],qp,qE _]]],qx],#[qK,#[QD,#[Qo,#[qy,16,yJ,Z.mono (),_,T.iD.m,T.iD.F.kp,T.iD.b,.nil,qH,#v[pv 1],_,_,_]]],%[|#[qv,ju]],qx],#[qK,#[qt,Qk,#[qJ,JI,pv 0,ql],qp],%[|#[qv,#[YZ,#[MM,1,Z.units],pv 1,#[qB,#v[qp,qp]],#[w]]]],qx]|#[qv,#[AcE,7,#[YZ,Qk,#[qJ,JI,pv 0,ql],qp,qE _],#[pe_one,#[qy,16,zA,Z.mono (),_,T.iF.m,T.iF.F.kp,T.iF.b,.nil,qH,#v[pv 1],_,_,_]]]]]
 have two:(2:Nat)<=sizeLine:=by decide
 have es:∀y:Str,decide (V.str u=V.str y)=decide (u=y):=λy=>by
  rw[uZ];exact⟨λh=>by injection h,λh=>by rw[h]⟩
 have iu:∀{H:Hp}{Q:VK},Is H (.tup [.str u,d]) v1->Q (.str u) H->OD K v1 (.int 0) H Q:=λ{H Q} i q=>xS (i:=0) (d:= .str u) i (Qn (j:=0) rfl) λx hx=>by
  erw[hx,rfl,_];exact q
 exists 0,1,0;unfold Cw at k;by_cases cn:an= .non
 ·subst cn;cases(show v2= .non from U)
  refine QR () ?_
  exists 0,.inr (.inl (iu i1 [1:?_]));rw[es];exact k H (ie.refl _)
 ·have aa:v2≠ .non:=zK U cn;have ac:XG an=false:=by
   cases an with
   |non=>exact Aa rfl cn
   |_=>rfl
  rw[ac,A4 ua] at k;refine QB (ub aa) ?_
  exists 0,v2,an,1,U,λH1 s1=>[0:?_];by_cases O:isT an=v_
  ·rw[A6 O] at k;rw[O];refine iW ?_
   exists 0,.inr (.inl (iu (i1.mono s1.tk) [1:0:?_]));rw[es];by_cases ch:u="has"
   ·rw[A6 ch] at k;refine QR (A9 ch) ?_
    exists 0,two,λt1 h1=>?_;have s2:=qi h1 (.tup [.str "yes",.str "no"])
    exists an,t1,["yes","no"],(U.mono s1.tk).mono s2.tk,1,.inr (SqT.of qk),?_,?_,?_,k _ (s1.trans s2)
    ·intro z hz;simp![uC,vk,uP] at hz;rcases hz with rfl|rfl<;>decide+kernel
    ·have hg:=yl O;cases an with
     |non=>rfl
     |str z=>rfl
     |tup xs=>
      show puL xs=v_;simp![iO,uu] at hg;exact goodL_pu hg.2
     |_=>simp[iO] at hg
    ·have:=Ws O;omega
   ·rw[A4 ch] at k;refine QB (ub ch) ?_
    exists 0,.inr (.inl (iu (i1.mono s1.tk) [1:?_]))
    exists 0;rw[es];by_cases ct:u="thing"
    ·rw[A9 ct] at k⊢;refine lj ?_;exact k _ s1
    ·rw[ub ct] at k⊢;refine iW ?_;exact⟨0,v2,an,1,U.mono s1.tk,O,λH2 s2=>k H2 (s1.trans s2)⟩
  ·rw[A4 O] at k;have:isT an=false:=by
    cases h:isT an with
    |true=>exact Aa h O
    |false=>rfl
   rw[this];exact lj (k _ s1)
def MN:#[C,6,a.Ja,a.j7,["self","tree"],(Aal a.qr)]:=by
 have Qy:=#[wr,T];have O:=#[Ly,T];have Y1:=#[D4,T,C];exists 9,T.io,jx
 erw[h,m,[B,p,n,gs,th],v,u,d,an,rfl,M,hO,al,iv,hR,aP,am,k];exists 3,%[#[qK,#[QD,#[Qo,#[QL,pv 0,T.qw,T.iw,Qy,hr.mono ()]]],%[|jS],qx],#[qD,(2),jx.nd,#[qJ,JI,#[qT,5,pv 0,rfl],ql]],#[qK,#[QD,#[Qo,#[qy,O,T.mQ,#v[pv 2,pv 1]]]],%[|jS],qx],#[Qd,#[Y4,uJ,vh,vi,yF,#[qT,5,pv 0,rfl],#v[#[qB,#v[pv 2,pv 1]]]]],#[JD,10,pv 0,ql,oT],#[qK,#[qt,YA,pv 1,Qe],%[#[Qi,#[qB,#v[qp,qp]]]|OH],qx],#[YO,#[qT,5,pv 0,rfl],#[qJ,JI,#[qJ,JI,#[qJ,qI,#[qT,5,pv 0,rfl],#[qS,DE,#[qT,5,pv 0,rfl],ql]],ql],ql],pv 1],#[JD,10,pv 0,ql,oT],#[Qi,Qe]|#[Qd,#[QL,pv 0,T.qw,T.iQ,Y1,hr.mono ()]]]
 simp only at al;subst al;have two:(2:Nat)<=sizeLine:=by decide
 have hw:QP (.tup [.str "asks",.tup [.str u,d]])=true:=by simp[QP]
 erw[hO.ask hw,af,ad,aQ,_];have ag:=hO.p1;have ao:=hO.gs.2.2;have ap:=hO.tr;simp only at af ad aQ ag ao ap;have hM:=M;erw[hM,dx,fs,rv,ru,tv,gv,e,f,ir,ij,ib,hg,gl,it];simp only at f ib gl it;have aR:↑fs<1000:=by have:=f.len;omega
 exists 8,N1,q1
 exists 0,m.x,dx,fs,1,e,f.meth _ (),m,0,M,.inr [_:0],0
 refine QB (by show(!QP (.tup [.str "asks",.tup [.str u,d]]))=Vh;rw[hw];rfl) ?_
 refine q1 _ _ ?_;exists 8,N2,q2
 exists 0,m.x,_,dx,fs,0,e,T.qw,T.qO,f.there,.inr (.inl (xS (i:=1) it (Qn (j:=1) rfl) λq hq=>?_));refine q2 _ _ ?_;exists 8,N3,q3
 exists 0,0,q,v,u,d,an,1,hq,iv,λH1 s1=>[0:?_];rw[am];refine iW ?_;refine q3 _ _ ?_;exists 8,N4,q4;have ha:=Iz am
 exists 0,m.x,_,dx,fs,0,s1 _ _ e,T.qw,T.YV,f.given,.inl [1:_:SqL.of (s1 _ _ hg)],0,0,two,λt1 h1=>?_;have s2:=qi h1 (.tup [q,v]);have ip:Is (upd H1 t1 (.tup [q,v])) (.tup [.tup [.str u,d],an]) (.ref t1):=Is.new (ds:= [.tup [.str u,d],an]) ⟨_,0,hq.mono s1.tk,_,0,iv.mono s1.tk,1⟩ h1;have S2:=s1.trans s2;generalize upd H1 t1 (.tup [q,v])=H2 at s2 ip S2⊢;have bf:↑gv=↑gs:=↑gl;have aq:=S2 _ _ hg
 exists m.dg,gv,0,1,aq,XT ()
 have t3:Tk H2 (upd H2 m.dg (.lst (gv++ [.ref t1]))):=Tk.updL aq;have aS:m.x≠m.dg:=λz=>by rw[<-z,e] at hg;cases hg
 have au:m.db≠m.dg:=λz=>by
  erw[ib,ff,e2,_];rw[z,hg] at e2;cases e2
 have e3:(upd H2 m.dg (.lst (gv++ [.ref t1]))) m.x=u_ (.ins a.qr dx fs):=by rw[qm aS];exact S2 _ _ e
 have T3:Tk H (upd H2 m.dg (.lst (gv++ [.ref t1]))):=S2.tk.trans t3;have aw:=(ib.same S2).move t3 (qm au);have ax:L2.IsL (upd H2 m.dg (.lst (gv++ [.ref t1]))) (gs++ [.tup [.tup [.str u,d],an]]) (gv++ [.ref t1]):=(gl.mono T3).append (IsL.one (ip.mono t3));have ay:(upd H2 m.dg (.lst (gv++ [.ref t1]))) m.dg=u_ (.lst (gv++ [.ref t1])):=qk;have aA:Mv m H (upd H2 m.dg (.lst (gv++ [.ref t1]))):=⟨λb o h _ _ n3=>by rw[qm n3];exact S2 b o h,T3⟩
 generalize upd H2 m.dg (.lst (gv++ [.ref t1]))=H3 at t3 e3 T3 aw ax ay aA⊢;refine q4 _ _ ?_;exists 8,N5,q5
 exists 0,m.x,_,dx,fs,0,e3,T.qw,T.yi,f.done,(n:Int),(1),1,1,dx,fs,e3,aR;erw[yx (r:=⟨B,p,n+1,gs++ [.tup [.tup [.str u,d],an]],.tup [.str "asks",.tup [.str u,d]]⟩) e3 (f.set_done (k:=n+1)) (ir.mono T3) (ij.mono T3) aw ay ax (it.mono T3),M4,aB];have aa:=aA.trans aB;have aC:=iv.mono aa.tk;refine q5 _ _ ?_;show mX _ _ _ _ (upd H3 m.x (.ins a.qr dx (iG "done" (.int ((n+1:Nat):Int)) fs)));generalize upd H3 m.x (.ins a.qr dx (iG "done" (.int ((n+1:Nat):Int)) fs))=H4 at M4 aB aa aC⊢;erw[M4,Z,U,bg,bh,bo,bp,e4,f4,ah,aD,ac,aE,ak,aF];simp only at f4 ac ak aF;have ae:↑U<1000:=by have:=f4.len;omega
 exists 8,N6,q6
 exists 0,1,0;by_cases cn:an= .non
 ·subst cn;cases(show v= .non from iv)
  refine QR () ?_
  exists two,λl hl=>?_;have s5:=qi hl (.tup [.str "fault",.str "lack"])
  exists 0,m.x,_,Z,U,1,s5 _ _ e4,T.qw,T.qO,ae;erw[yx (r:=⟨B,p,n+1,gs++ [.tup [.tup [.str u,d],.non]],flt "lack"⟩) (s5 _ _ e4) (f4.set_there (u:= .ref l)) (ah.mono s5.tk) (aD.mono s5.tk) (ac.same s5) (s5 _ _ aE) (ak.mono s5.tk) (Is.new (ds:= [.str "fault",.str "lack"]) ⟨_,0,[1:Q6 ()],_,0,[1:Q6 ()],1⟩ hl),m1,m2]
  exact k _ (aa.trans ((Mv.of s5).trans m2)) m1
 ·have hT:isT an=true:=ha.resolve_left cn;have aT:v≠ .non:=zK iv cn;have aU:XG an=false:=by
   cases an with
   |non=>exact Aa rfl cn
   |_=>rfl
  refine QB (ub aT) ?_;refine q6 _ _ ?_;exists 8,N7,q7;erw[AbC (hR.ok _ (Kn ag af)) ad,z0,z1,aG,aV];have aW:b0 (Jl m.rs p).2=z0:=by rw[aG];rfl
  erw[ac.put aV aC,kvs,aH,aX,t5];have aY:atI (m.rs.map rowD) (p-1)=u_ (rowD (Jl m.rs p)):=by
   rw[show p-1=((p.toNat-1:Nat):Int) by omega]
   exact Qn (by rw[uD,Do ag af];rfl)
  have aZ:m.db≠m.x:=YC.ne e4 ac;have a1:m.dg≠m.db:=au.symm
  exists 0,0,m.x,_,Z,U,0,e4,T.qw,T.QE,f4.boxes,0,m.x,_,Z,U,0,e4,T.qw,T.Yf,f4.rows,0,m.x,_,Z,U,0,e4,T.qw,T.Qt,f4.place,_,0,1;refine xS (d:=rowD (Jl m.rs p)) ah aY λq5 a3=>?_;refine .inr (.inl (xS (i:=1) a3 (Qn (j:=1) rfl) λq6 aI=>?_));rw[aG] at aI;refine .inr (.inl (xS (i:=0) (d:= .str z0) aI (Qn (j:=0) rfl) λq7 a4=>?_));erw[a4,rfl,_]
  exists m.db,0,aH;have e5:(upd H4 m.db (.dK kvs)) m.x=u_ (.ins a.qr Z U):=by rwa[qm aZ.symm]
  refine q7 _ _ ?_;exists 8,N8,q8
  exists 0,m.x,_,Z,U,0,e5,T.qw,T.Qt,f4.place,p,(1),1,1,Z,U,e5,ae;obtain⟨M6,a5⟩:=yx (r:=⟨AR B z0 an,p+1,n+1,gs++ [.tup [.tup [.str u,d],an]],.tup [.str "asks",.tup [.str u,d]]⟩) e5 (f4.set_place (q:=p+1)) (ah.mono t5) (aD.mono t5) aX (by rwa[qm a1]) (ak.mono t5) (aF.mono t5)
  have aJ:=aa.trans (Mv.trans ⟨λb o h _ a2 _=>by rwa[qm a2],t5⟩ a5)
  erw[M6,a6,aK,bq,bt,bu,bv,e6,f6,a7,a8,aL,a9,aM,ba];simp only at f6 aL aM ba;have aN:↑aK<1000:=by have:=f6.len;omega
  refine q8 _ _ ?_;exists 8,N9,q9
  exists 0,m.x,_,a6,aK,1,e6,T.qw,T.qO,aN;erw[yx (r:=⟨AR B z0 an,p+1,n+1,gs++ [.tup [.tup [.str u,d],an]],.non⟩) e6 (f6.set_there (u:= .non)) a7 a8 aL a9 aM rfl,M7,bb];have aO:=aJ.trans bb;erw[id M7,bc,bd,bw,bx,bA,bB,e7,f7,r7];refine q9 _ _ ?_
  exists 5
  refine⟨0,m.x,bc,bd,1,e7,f7.meth _ (),m,0,M7,1,Km ap hT,aP,hR,by show 1<=p+1;omega,by show p+1<=_;omega,by show n+1<=300;omega,λH8 be M8=>k H8 (aO.trans be) ?_⟩
  unfold mS;rw[aU,A4 ua];simp only;rw[aW];exact M8
nonrec def mw (H:Hp)(p:o6):Prop:=∃x:Int,H p=u_ (.lst [.int x])/\0<=x
def mw.same (h:mw H p)(s:ie H H'):mw H' p:=by
 erw[h,x,e,r];exact[x:s _ _ e:r]
def mw.free {l:o6}(h:mw H p)(n:H l=U_):p≠l:=by
 erw[h,x,e,r];exact qo e n
def mw.tk (h:mw H p)(h':mw H' p)(k:jR p H H'):Tk H H':=by
 erw[h,x,e,_];erw[h',U,O,_];exact k.tk e O
inductive NO:Sp
 |mk (p:Addr)(many:Int)(_:vs= [.ref p,.int many])(_:mw H p)(_:0<many)(_:many<1073741824)(_:∀(d:Int)(H':Hp),0<=d->d<many->mw H' p->jR p H H'->Q (.int d) H')
inductive NT:Sp
 |mk (c t:Int)(_:vs= [.int c,.int t])(_:0<=t)(_:t<1000)(_:∀(p:Addr)(H':Hp),H p=U_->ie H H'->mw H' p->Q (.ref p) H')
def jU:#[T,1,a.W9,a.ke,["pot","many"],NO]:=by
 exists 9,T.ig,wI
 erw[h,p,many,rfl,[x,O,Z],hm,U,k];exists 3,%[#[qD,(2),wI.nd,#[qS,yS,#[qJ,QN,pv 0,ql],pv 1]],#[Be,6,#[qS,zy,#[qJ,QN,pv 0,ql],pv 1],#[MI,7,pv 0,ql,AQ,_],_,_,_]|#[qv,pv 2]]
 exists 0,p,_,_,0,1,SqL.of O,1,0,_,0,1,hm
 exists 0,p,_,_,0,1,SqL.of O,1,0,_,0,1,[hm:U],0,p,_,_,0,1,O,1
 exists 0;refine k _ _ (vF _ ()) (vq _ hm) [x/many:qk:Int.ediv_nonneg Z ()] (jR.upd _ _ _)
def DW:#[T,1,a.f_law_pot,a.d_law_pot,["cell","salt"],NT]:=by
 exists 9,T.mH,YF
 erw[h,c,t,rfl,h0,h1,k];exists 3,%[#[qK,#[qt,AcI,#[qA,BS,T.z_abs,boot_abs,#v[pv 0]],#[qS,AaK,ql,ql]],%[|#[qv,#[QA,#v[#[qA,BS,T.z_abs,boot_abs,#v[pv 0]]]]]],qx],#[qD,(2),YF.nd,#[qS,yS,#[qS,oC,#[qS,yf,#[qS,yf,#[qS,yS,pv 0,ql],#[qS,oC,ql,pv 1]],ql],ql],ql]],#[qD,(3),YF.nd,ql],#[Yh,#[yN,#v[ql]],#[qU,(4),YF.nd],%[#[qD,(2),YF.nd,#[qS,yS,#[qS,yf,#[qS,yf,#[qS,oC,pv 2,pv 2],#[qS,oC,ql,pv 4]],ql],ql]]|#[qD,(3),YF.nd,#[qS,yf,#[qS,oC,pv 3,ql],pv 2]]]]|#[qv,#[QA,#v[pv 3]]]]
 exists 0,0,_,0,1,[():():()],_,0,1,0
 refine li (λ_=>?_) (λ_=>?_)
 ·exists 0,0,(sml rfl),λp O=>?_;refine k p _ O (qi O _) [_:qk:?_];split<;>omega
 ·exists 0,_,0,1,(by show(0:Int)<2147483647;decide),0,_,0,1,(.inl [():()]),_,0,1,_,0,1,_,0,1,(.inr [():()]),_,0,1,(by show(0:Int)<2147483647;decide),(9),1,(),()
  let J1_:Nat->L2.St->Hp->Prop:=λi σ H'=>E3 λ(x:Int) (b:Int) (kv:oq V)=>A5 (σ= [u_ (.int c),u_ (.int t),u_ (.int x),u_ (.int b),kv]) (0<=x) (x<2147483647) (0<=b) (H'=H)
  refine zl (n:=9) J1_ ⟨_,_,U_,1,vF _ (),vq _ (),(),1⟩ ?_ ?_
  ·rintro i σ H' hi ⟨x,b,kv,rfl,Z,aa,hb,rfl⟩;have U:Ab8 x x:= .inl [():()]
   exists 0,0,_,0,1,U,0,_,0,1,(.inl [():()]),_,0,1,_,0,1,_,0,1,(by show(0:Int)<2147483629;decide),0,_,0,1,(.inr [():()]),0,_,0,1
   have q0:0<=(x*x+40692*(0+(i:Int))+3)%2147483629:=vF _ ()
   have q1:(x*x+40692*(0+(i:Int))+3)%2147483629<2147483629:=vq _ ()
   exact⟨_,_,0,q0,Int.lt_trans q1 (),Int.add_nonneg (Int.mul_nonneg hb ()) q0,1⟩
  ·rintro σ H' ⟨x,b,kv,rfl,Z,aa,hb,rfl⟩;exact[0:(sml rfl):λp O=>k p _ O (qi O _) [_:qk:hb]]
nonrec def Nm4 (zs:om Str):Prop:=1<=↑zs/\↑zs<=60/\∀z∈zs,nm z=v_/\↑z<=4
nonrec def Wd (n:Nat)(z:Str):Prop:=Jh z=v_/\↑z<=n
def jR.of (s:ie H H'):jR p H H':=λb o e _=>s b o e
def mw.ne_strs {l:o6}(h:mw H p)(e:H l=u_ (.lst (zs.map V.str))):l≠p:=λz=>by
 erw[h,x,O,_];rw[<-z,e] at O;cases zs with
 |nil=>cases O
 |cons a r=>simp at O
inductive NL:Sp
 |mk (p L:Addr)(zs:List Str)(_:vs= [.ref p,.ref L])(_:mw H p)(_:H L=u_ (.lst (zs.map V.str)))(_:Nm4 zs)(_:∀(z:Str)(H':Hp),Wd 4 z->mw H' p->jR p H H'->Q (.str z) H')
inductive Od:Sp
 |mk (p L:Addr)(zs:List Str)(many k:Nat)(_:vs= [.ref p,.ref L,.int (many:Int),.int (k:Int)])(_:mw H p)(_:H L=u_ (.lst (zs.map V.str)))(_:Nm4 zs)(_:1<=many)(_:many<=12)(_:k<=12)(_:∀(z:Str)(H':Hp),Wd 20 z->mw H' p->jR p H H'->Q (.str z) H')
nonrec def FIV:om Str:= ["","x","b1 g","yes","c/d"]
def Abm:∀z∈FIV,Wd 4 z:=by
 have:∀z∈FIV,Jh z=v_/\↑z<=4:=by decide+kernel
 exact this
def kK (h:nm z=v_):Jh z=true:=D7 (MR h)
def Acd (h:Nm4 zs):∀z∈zs++FIV,Wd 4 z:=λz O=>by
 rcases Af.mp O with h1|h1
 ·exact[kK (h.2.2 z h1).1:(h.2.2 z h1).2]
 ·exact Abm z h1
def Wd.cat {m k:Nat}{y:Str}(h:Wd n x)(h':Wd m y)(e:n+m<=k):Wd k (x++y):=⟨D8 h.1 h'.1,by rw[Kz];have:=h.2;have:=h'.2;omega⟩
def Ev:∀{l:om Str},(∀z∈l,Jh z=v_)->Wd ((l.map (·.length)).sum+↑l) (Vq " " l)
 | [],_=>[1:uG _]
 | [z],h=>⟨h z (by simp),by show ↑z<=_;simp⟩
 |z::y::r,h=>by
  have O:=Ev (l:=y::r) λx U=>h x (uc _ U);have Z:=h z (by simp)
  have e:=L2.JZ z y r;exists ?_,?_
  ·show(Vq " " (z::y::r)).cps.toList.all QJ=v_;rw[e,V3,vx,show z.cps.toList.all QJ=v_ from Z,show(Vq " " (y::r)).cps.toList.all QJ=v_ from O.1]
   decide
  ·rw[qaj,e,uq,uj,<-qaj,<-qaj];have h1:=O.2;simp![ur,UI,uj] at h1⊢;omega
nonrec def WL:om Str:= ["ask","ask","ask","has","names","text","text","copy","put","put","join","first","first","rest","size","cut","glue","like","none","rowed","go","say","fault","self"]
noncomputable abbrev WTX:Str:="ask ask ask has names text text copy put put join first first rest size cut glue like none rowed"
def SY:spl ((WTX++(" go say fault self":Str)).length+1) (WTX++(" go say fault self":Str))=WL:=by decide+kernel
def Acc:∀z∈WL,Wd 5 z:=by
 have:∀z∈WL,Jh z=v_/\↑z<=5:=by decide+kernel
 exact this
def AbI:∀c∈("abcdh":Str).cps.toList,QJ c=true:=by decide+kernel
def No {d:Int}(h0:0<=d)(h1:d<5):∃c,atI ("abcdh":Str).cps.toList d=u_ c/\Wd 1 ⟨#[c]⟩:=by
 obtain⟨c,O⟩:=YB (xs:=("abcdh":Str).cps.toList) h0 (by show d<5;exact h1)
 exists c,O,?_,ug _;show [c].all QJ=v_;rw[vx,AbI c (jM O)]
 rfl
def AaX:∀k:Nat,k<13->Jh (Vs (k:Int):Str)=v_/\↑(Vs (k:Int):Str)<=2:=by decide+kernel
def wh:#[T,2,a.kh,a.Kg,["pot","names"],NL]:=by
 have qW:=#[jU,T];exists 9,T.iC,Wz
 erw[h,p,L,zs,rfl,hP,hL,U,k];have hs:=uw;have aa:=U.1;have ac:=U.2.1;exists 3,%[#[qD,(2),Wz.nd,#[qS,WO,pv 1,#[QA,#v[qp,qp,qp,qp,qp]]]]|#[qv,#[qJ,QN,pv 2,#[qy,qW,T.ig,#v[pv 0,#[qA,qL,T.yh,uH,#v[pv 2]]]]]]]
 exists 0,(sml rfl),λq hq=>?_;have s1:ie H (upd H q (.lst [.str "",.str "x",.str "b1 g",.str "yes",.str "c/d"])):=qi hq _
 exists L,q,_,0,1,s1 _ _ hL,qk,(by rw[u9];show _+5<=Vl;omega),λl hl=>?_
 have s2:=s1.trans (qi hl (.lst (zs.map V.str++ [.str "",.str "x",.str "b1 g",.str "yes",.str "c/d"])));have O:(upd (upd H q (.lst [.str "",.str "x",.str "b1 g",.str "yes",.str "c/d"])) l (.lst (zs.map V.str++ [.str "",.str "x",.str "b1 g",.str "yes",.str "c/d"]))) l=u_ (.lst ((zs++FIV).map V.str)):=by rw[qk,uh];rfl
 generalize upd (upd H q (.lst [.str "",.str "x",.str "b1 g",.str "yes",.str "c/d"])) l (.lst (zs.map V.str++ [.str "",.str "x",.str "b1 g",.str "yes",.str "c/d"]))=H2 at s2 O⊢;have P2:=hP.same s2;have l5:↑((zs++FIV).map V.str)=↑zs+5:=by rw[u9,uq];rfl
 exists 5
 refine⟨0,0,0,l,0,.inl (SqL.of O),p,0,P2,by rw[l5];omega,by rw[l5];omega,λd H' d0 d1 P3 K3=>?_⟩
 have Z:=K3 _ _ O (P2.ne_strs O);erw[YB (xs:=(zs++FIV).map V.str) d0 d1,v,hv];erw[Ag.mp (jM hv),z,hz,rfl];exact⟨l,_,d,0,1,SqL.of Z,hv,k z H' (Acd U z hz) P3 ((jR.of s2).trans K3)⟩
def Adv {c:Nat}:∀{l:om Str},(∀z∈l,↑z<=c)->(l.map (·.length)).sum<=↑l*c
 | [],_=>by simp
 |z::r,h=>by
  have:=Adv λy O=>h y (uc _ O);have:=h z ue;simp![ur,UI,uj,r6,Ft];omega
def LR {K:o0}(hl:↑l<=3)(O:Wd 5 z)(h:∀z∈l,Wd 2 z)(k:∀y H',Wd 20 y->ie H H'->Q (.str y) H'):↑((z::l).map V.str)<=Vl/\∀p,H p=U_->Aax K (.str " ") [.ref p] (upd H p (.lst ((z::l).map V.str))) Q:=by
 have hs:=uw;have h1:=Adv (c:=2) λz O=>(h z O).2;have h2:=O.2;refine⟨by rw[u9,uj];omega,λp Z=>⟨" ",p,z::l,1,1,SqL.of qk,?_,?_⟩⟩
 ·have e:(" ":Str).length=1:=rfl;rw[e];simp![ur,UI,uj];omega
 ·have:=Ev (l:=z::l) λy U=>by
   rcases Ac.mp U with rfl|U
   ·exact O.1
   ·exact(h y U).1
  refine k _ _ [this.1:?_] (qi Z _);have h3:=this.2;simp![ur,UI,uj] at h3;omega
def O8:#[T,3,a.Kf,a.Ka,["pot","names","many","k"],Od]:=by
 have qW:=#[jU,T];have Q3:=#[wh,T];exists 9,T.mZ,yq
 erw[h,p,L,zs,many,i,rfl,hP,hL,hN,ay,aA,hi,k];exists 3,%[#[qD,(4),yq.nd,qp],#[qD,(5),yq.nd,#[qJ,QN,#[Y4,uV,Uv,Uw,Br,#[qS,Qb,pv 4,qp],#v[qp]],#[qy,qW,T.ig,#v[pv 0,ql]]]],#[Be,6,#[zk,["j","pot"],[0],En (qq xb) ["pot","names","many","k","words","word","one","two","three","at"],#[yN,#v[ql]],(λ_ _ _ _ _ _=>#[qU,(0),(show Vy (["j","pot"]:om Str) by decide+kernel)]),(λ_ _ _ _ _ _=>#[qJ,Bz,qp,#[qy,qW,T.ig,#v[pv 1,ql]]])],#[OO,6,rfl,YD #[qU,(6),yq.nd] (YD #[qU,(7),yq.nd] (YD #[qU,(8),yq.nd] Kl)),_,_],_,_,_],#[qD,(9),yq.nd,#[qR,Yi,T.XL,UL,#v[#[qA,#[Im,1,rfl],T.z_min,boot_min,#v[pv 2,#[qS,yf,#[qS,yf,pv 3,ql],#[qy,qW,T.ig,#v[pv 0,pv 2]]]]]]]],#[qK,#[qt,Qk,pv 5,qp],%[|#[qv,#[qS,Qb,#[qS,Qb,#[qS,Qb,qp,pv 6],qp],#[qy,Q3,T.iC,#v[pv 0,pv 1]]]]],qx],#[qK,#[qt,8,QU,pv 5,#[QA,#v[qp,qp]],#[w]],%[|#[qv,#[qS,Qb,#[qS,Qb,pv 5,qp],pv 6]]],qx],#[qK,#[qt,Qk,pv 5,qp],%[|#[qv,pv 5]],qx],#[qK,#[qt,Qk,pv 5,qp],%[|#[qv,#[qS,Qb,qp,pv 9]]],qx],#[qK,#[qt,8,QU,pv 5,#[QA,#v[qp,qp]],#[w]],%[|#[qv,#[Y4,uV,U8,U9,qai,qp,#v[#[QA,#v[pv 5,pv 6,pv 9]]]]]],qx],#[qK,#[qt,Qk,pv 5,qp],%[|#[qv,#[Y4,uV,U8,U9,qai,qp,#v[#[QA,#v[pv 5,pv 6,pv 7,pv 9]]]]]],qx],#[qK,#[qt,8,QU,pv 5,#[QA,#v[qp,qp]],#[w]],%[|#[qv,#[Y4,uV,U8,U9,qai,qp,#v[#[QA,#v[pv 5,pv 6,pv 7,pv 8]]]]]],qx]|#[qv,#[Y4,uV,U8,U9,qai,qp,#v[#[QA,#v[pv 5,pv 6,pv 7]]]]]]
 exists 0,_,0,1,(),1,0,1,(),λq hq=>?_
 rw[show spl _ _=WL from SY]
 have s1:ie H (upd H q (.lst (WL.map V.str))):=qi hq _;have eq:(upd H q (.lst (WL.map V.str))) q=u_ (.lst (WL.map V.str)):=qk;generalize upd H q (.lst (WL.map V.str))=H1 at s1 eq⊢;have P1:=hP.same s1
 exists 0,p,(24),1,P1,(),(),λd H2 d0 d1 P2 K2=>?_
 obtain⟨v,hv⟩:=YB (xs:=WL.map V.str) d0 (by show d<24;exact d1)
 erw[Ag.mp (jM hv),z,hz,rfl]
 exists q,_,d,0,1,SqL.of (K2 _ _ eq (P1.ne_strs eq)),hv;have Z:=Acc z hz;have ah:jR p H H2:=(jR.of s1).trans K2;clear K2 hv hz eq P1 s1 hq
 exists (3),1,(),(),λD hD=>?_
 refine jP (lo:=0) (tl:= [u_ (.ref p)]) (λi ys H'=>∃bs:om Str,ys=bs.map V.str/\↑bs=i/\(∀b∈bs,Wd 1 b)/\mw H' p/\(∀b o,H2 b=u_ o->b≠p->H' b=u_ o)) (Q6 ()) ⟨[],1,1,λb hb=>by simp at hb,P2.same (qi hD _),λb o e _=>qi hD _ _ _ e⟩ ?_ ?_
 ·rintro j ys H' hj ⟨bs,rfl,aa,U,P',K'⟩ ac O R hR
  exists 0,p,(5),1,P',(),(),λd3 H4 e0 e1 P4 K4=>?_
  erw[No e0 e1,c,hc,am]
  exists "abcdh",d3,c,1,1,(),hc
  have nD:D≠p:=(P2.free hD).symm;refine hR _ H4 (K4 _ _ ac nD) ⟨bs++ [⟨#[c]⟩],by rw[uh];rfl,by rw[uq,aa];rfl,λb hb=>?_,?_,λb o e np=>?_⟩
  ·rcases Af.mp hb with h|h
   ·exact U b h
   ·rw[vo] at h;subst h;exact am
  ·erw[P4,x,e2,h2];exact⟨x,by rwa[qm nD.symm],h2⟩
  ·rw[qm (qo e hD)];exact K4 _ _ (K' b o e np) np
 ·rintro ys H' ⟨bs,rfl,aa,U,P',K'⟩ ac;obtain⟨x1,x2,x3,rfl⟩:∃x1 x2 x3,bs= [x1,x2,x3]:=by
   match bs,aa with
   | [x1,x2,x3],_=>exact⟨x1,x2,x3,1⟩
  have h1:Wd 2 x1:=⟨(U x1 (by simp)).1,by have:=(U x1 (by simp)).2;omega⟩
  have h2:Wd 2 x2:=⟨(U x2 (by simp)).1,by have:=(U x2 (by simp)).2;omega⟩
  have h3:Wd 2 x3:=⟨(U x3 (by simp)).1,by have:=(U x3 (by simp)).2;omega⟩
  have KD:jR p H H':=λb o e np=>K' b o (ah b o e np) np
  exists D,0,SqL.of ac,1,_,0,_,0,_,0,1;clear K' ah P2 U aa ac
  exists 0,0,_,0,1,0,0,p,many,1,P',(),(),λd5 H5 f0 f1 P5 K5=>⟨_,0,1,_,0,?_⟩
  obtain⟨j,ej,ao,ap⟩:∃j:Int,j=(if(i:Int)+5+d5<(many:Int) then(i:Int)+5+d5 else(many:Int))/\1<=j/\j<=12:=⟨0,by split<;>omega,by split<;>omega⟩
  rw[<-ej];obtain⟨jn,rfl⟩:∃n:Nat,j=(n:Int):=[j.toNat:()]
  have ak:=AaX jn ()
  have h4:Wd 2 (Vs ((jn:Nat):Int):Str):=ak;have ae:((jn:Nat):Int).natAbs.log2<1920:=by have:=UR ((jn:Nat):Int).natAbs;omega
  exists 0,ae;have af:jR p H H5:=KD.trans K5;have aq:=af _ _ hL (hP.ne_strs hL);have fin:∀(y:Str) (H':Hp),Wd 20 y->ie H5 H'->Q (.str y) H':=λy H' O s'=>k y H' O (P5.same s') (af.trans (jR.of s'));have two:(2:Nat)<=sizeLine:=by decide
  have bl:Wd 1 " ":=[():ug _]
  have fz:∀{n m:Nat}{x y:Str},Wd n x->Wd m y->n+m<=100->↑x+↑y<=sizeLine:=λhx O h=>mt (by have:=hx.2;have:=O.2;omega)
  have tx:Wd 5 "text ":=[():ug _]
  have go:Wd 3 "go ":=[():ug _]
  clear ak ao ap ae ej
  exists 0,1,0,li (λ_=>?_) (λ_=>?_)
  ·have w1:=tx.cat h1 (k:=7) ()
   have w2:=w1.cat bl (k:=8) ()
   exists 0,_,0,1,fz tx h1 (),_,0,1,fz w1 bl (),0,0,p,L,zs,1,P5,aq,hN,λy H6 O P6 K6=>?_
   exact⟨_,0,1,fz w2 O (),k _ H6 (w2.cat O ()) P6 (af.trans K6)⟩
  exists 0,two,λl1 au=>⟨l1,0,.inl (SqL.of qk),1,1,0,?_⟩;have ad:=qi au (.lst ([.str "self",.str "say"]:om V));refine li (λ_=>?_) (λ_=>?_)
  ·have w1:=Z.cat bl (k:=6) ()
   exact⟨0,_,0,1,fz Z bl (),0,_,0,1,fz w1 h1 (),fin _ _ (w1.cat h1 ()) ad⟩
  exists 0,1,0,li (λ_=>?_) (λ_=>?_)
  ·exact⟨0,fin _ _ ⟨Z.1,by have:=Z.2;omega⟩ ad⟩
  exists 0,1,0,li (λ_=>?_) (λ_=>?_)
  ·exact⟨0,_,0,1,fz go h4 (),fin _ _ (go.cat h4 ()) ad⟩
  exists 0,two,λl2 aw=>⟨l2,0,.inl (SqL.of qk),1,1,0,?_⟩;have ag:=ad.trans (qi aw (.lst ([.str "none",.str "rowed"]:om V)));refine li (λ_=>?_) (λ_=>?_)
  ·exists 1,0,0,0;exact LR (l:= [x1,Vs ((jn:Nat):Int)]) (by simp) Z (λy O=>by simp at O;rcases O with rfl|rfl<;>assumption) λy H' O s'=>fin y H' O (ag.trans s')
  exists 0,1,0,li (λ_=>?_) (λ_=>?_)
  ·exists 1,0,0,0,0;exact LR (l:= [x1,x2,Vs ((jn:Nat):Int)]) (by simp) Z (λy O=>by simp at O;rcases O with rfl|rfl|rfl<;>assumption) λy H' O s'=>fin y H' O (ag.trans s')
  exists 0,two,λl3 ax=>⟨l3,0,.inl (SqL.of qk),1,1,0,?_⟩;have al:=ag.trans (qi ax (.lst ([.str "cut",.str "glue"]:om V)));refine li (λ_=>?_) (λ_=>?_)
  ·exists 1,0,0,0,0;exact LR (l:= [x1,x2,x3]) (by simp) Z (λy O=>by simp at O;rcases O with rfl|rfl|rfl<;>assumption) λy H' O s'=>fin y H' O (al.trans s')
  ·exists 1,0,0,0;exact LR (l:= [x1,x2]) (by simp) Z (λy O=>by simp at O;rcases O with rfl|rfl<;>assumption) λy H' O s'=>fin y H' O (al.trans s')
nonrec def SG (d:D):Prop:=isT d=v_/\lw d=v_/\sz d<=300
inductive C4:Sp
 |mk (p L:Addr)(zs:List Str)(_:vs= [.ref p,.ref L])(_:mw H p)(_:H L=u_ (.lst (zs.map V.str)))(_:Nm4 zs)(_:∀(v:V)(d:D)(H':Hp),SG d->Is H' d v->mw H' p->jR p H H'->Q v H')
def IsL.ofStrz {H:Hp}:∀{l:om Str},(∀z∈l,↑z<=1000)->L2.IsL H (l.map D.str) (l.map V.str)
 | [],_=>rfl
 |z::r,h=>⟨_,0,[1:Q6 (h z ue)],IsL.ofStrz λy O=>h y (uc _ O)⟩
def AK {n:Nat}:∀{l:om Str},(∀z∈l,↑z<=n)->szL (l.map D.str)<=↑l*(n+1)
 | [],_=>by simp[szL]
 |z::r,h=>by
  have:=AK (n:=n) λy O=>h y (uc (a:=y) z O);have:=h z ue;simp![ur,szL,sz,uj,r6,Ft];omega
def Ek:∀{l:om Str},(∀z∈l,Jh z=v_)->lwL (l.map D.str)=v_
 | [],_=>rfl
 |z::r,h=>by
  rw[ur,lwL,Ek λy O=>h y (uc _ O),Um];exact h z ue
def E8:∀l:om Str,dpL (l.map D.str)<=1
 | []=>by simp[dpL]
 |z::r=>by have:=E8 r;simp![ur,dpL,dp];omega
def oV:∀{l:om Str},(∀z∈l,Wd 300 z)->goodL (l.map D.str)=v_
 | [],_=>rfl
 |z::r,h=>by
  rw[ur,goodL,oV λy O=>h y (uc _ O),Um];show Qz z=v_;unfold Qz;have:=h z ue;rw[A9 this.2];exact this.1
def Mq (h:Wd 20 z):SG (.str z):=⟨EB h.1 (by have:=h.2;omega),h.1,by simp![sz];have:=h.2;omega⟩
def wx (Z:↑l<=14)(h:∀z∈l,Wd 20 z):SG (.tup (l.map D.str)):=by
 have h1:=AK λz O=>(h z O).2;have h2:=E8 l;have h3:=oV λz O=>(⟨(h z O).1,by have:=(h z O).2;omega⟩:Wd 300 z)
 have e:sz (.tup (l.map D.str))<=300:=by simp![sz];omega
 exists ?_,by simpa only [lw] using Ek λz O=>(h z O).1,e
 have U:dp (.tup (l.map D.str))<=12:=by simp![dp];omega
 unfold isT;rw[A9 (show sz (.tup (l.map D.str))<=600 by omega),A9 U]
 simp![iO];rw[h3,u9,A9 (show ↑l<=40 by omega)]
 rfl
def xQ {t:o6}(h:∀z∈l,Wd 20 z)(O:H t=U_):Is (upd H t (.tup (l.map V.str))) (.tup (l.map D.str)) (.ref t):=
 Is.new (IsL.ofStrz λz U=>by have:=(h z U).2;omega) O
nonrec def MKL (z:Str):om Str:= ["row h","text b "++z,"ask c b","text a text d ","join a c","put h a","text a ask e d","put h a","text a say e","put h a","say h"]
def MU (h:Wd 4 z):∀y∈MKL z,Wd 20 y:=by
 have O:∀y∈(["row h","ask c b","text a text d ","join a c","put h a","text a ask e d","put h a","text a say e","put h a","say h"]:om Str),Jh y=v_/\↑y<=20:=by decide+kernel
 intro y U;rcases Ac.mp U with rfl|U
 ·exact O _ (by simp)
 ·rcases Ac.mp U with rfl|U
  ·exact Wd.cat (n:=7) (m:=4) [():ug _] h ()
  ·exact O y (uc _ U)
def Lu:#[T,2,a.wY,a.Wf,["pot","names"],C4]:=by
 have qW:=#[jU,T];exists 9,T.mM,jc
 erw[h,p,L,zs,rfl,hP,hL,Z,k];have ac:=Z.1;have ad:=Z.2.1;exists 3,%[#[qD,(2),jc.nd,#[qJ,QN,pv 1,#[qy,qW,T.ig,#v[pv 0,#[qA,qL,T.yh,uH,#v[pv 1]]]]]],#[qD,(3),jc.nd,#[QA,#v[qp,#[qS,Qb,qp,pv 2],qp,qp,qp,qp]]],#[qD,(3),jc.nd,#[qS,WO,pv 3,#[QA,#v[qp,qp,qp,qp,qp]]]]|#[qv,#[qR,qP,T.Qr,vc,#v[pv 3]]]]
 have aa:=hP.ne_strs hL
 exists 5
 refine⟨0,0,0,L,0,.inl (SqL.of hL),p,0,hP,by rw[u9];omega,by rw[u9];omega,λd1 H1 a0 a1 P1 K1=>?_⟩
 erw[YB (xs:=zs.map V.str) a0 a1,v,hv];erw[Ag.mp (jM hv),z,hz,rfl];have O:Wd 4 z:=[kK (Z.2.2 z hz).1:(Z.2.2 z hz).2]
 exists L,_,_,0,1,SqL.of (K1 _ _ hL aa),hv;have e7:("text b ":Str).length=7:=by decide+kernel
 exists 0,_,0,1,mt (by have:=O.2;omega),(sml rfl),λU h1=>?_
 have q1:=qi h1 (.lst (((MKL z).take 6).map V.str));have e1:(upd H1 U (.lst (((MKL z).take 6).map V.str))) U=u_ (.lst (((MKL z).take 6).map V.str)):=qk;show mX _ _ _ _ (upd H1 U (.lst (((MKL z).take 6).map V.str)));generalize upd H1 U (.lst (((MKL z).take 6).map V.str))=H2 at q1 e1⊢
 exists 0,(sml rfl),λl2 h2=>?_;have q2:=qi h2 (.lst (((MKL z).drop 6).map V.str))
 exists U,l2,_,0,1,q2 _ _ e1,qk,mt (by show 6+5<=16000000;decide),λl3 h3=>?_
 have q3:=q2.trans (qi h3 (.lst ((MKL z).map V.str)))
 exists 0,l3,(MKL z).map V.str,1,.inl [SqL.of qk:λt ht=>?_];have q4:=qi ht (.tup ((MKL z).map V.str));exact k _ _ _ (wx (by show 11<=14;decide) (MU O)) (xQ (MU O) ht) ((P1.same q1).same (q3.trans q4)) (K1.trans (jR.of (q1.trans (q3.trans q4))))
def DR:#[T,4,a.kA,a.Kh,["pot","names"],C4]:=by
 have qW:=#[jU,T];have Q3:=#[wh,T];have O:=#[O8,T];exists 9,T.mq,jO
 erw[h,p,L,zs,rfl,hP,hL,hN,k];exists 3,%[#[qD,(2),jO.nd,#[qS,yf,ql,#[qy,qW,T.ig,#v[pv 0,ql]]]],#[qD,2,(3),4,jO.nd,rfl,VV rfl,#[qS,yf,pv 2,ql],_,_],#[qD,(4),jO.nd,#[QA,#v[#[qS,Qb,qp,#[qy,Q3,T.iC,#v[pv 0,pv 1]]],#[qS,Qb,qp,#[qy,Q3,T.iC,#v[pv 0,pv 1]]],qp]]],#[Qd,#[Y4,uJ,PySem.F.slot_list_extend,PySem.F.type_list_extend,oJ,pv 4,#v[#[zk,["k","pot","names","many"],[0,1,3],En (qq xh) ["pot","names","body","many","lines"],#[yN,#v[pv 2]],(λ_ _ _ _ _ _=>#[qU,(0),(show Vy (["k","pot","names","many"]:om Str) by decide+kernel)]),(λ_ _ _ _ _ _=>#[qy,O,T.mZ,#v[pv 1,pv 2,pv 3,pv 0]])]]]]|#[qv,#[qR,qP,T.Qr,vc,#v[#[qS,WO,pv 4,#[QA,#v[#[qS,Qb,qp,#[qJ,Bz,qp,#[qy,qW,T.ig,#v[pv 0,ql]]]]]]]]]]]
 exists 0,p,(8),1,hP,(),(),λd1 H1 a0 a1 P1 K1=>⟨_,0,1,?_⟩
 obtain⟨nb,ah,aG,aH⟩:∃nb:Nat,1+d1=(nb:Int)/\1<=nb/\nb<=8:=⟨(1+d1).toNat,(),(),()⟩
 have aa:=K1 _ _ hL (hP.ne_strs hL)
 try dsimp only
 rw[ah];clear ah a0 a1
 exists 0,_,0,1;have ta:Wd 7 "text a ":=[():ug _]
 have tb:Wd 7 "text b ":=[():ug _]
 have fz:∀{n m:Nat}{x y:Str},Wd n x->Wd m y->n+m<=100->↑x+↑y<=sizeLine:=λhx U h=>mt (by have:=hx.2;have:=U.2;omega)
 exists 0,0,p,L,zs,1,P1,aa,hN,λz1 H5 ak P5 K5=>⟨_,0,1,fz ta ak (),?_⟩
 have ac:=K5 _ _ aa (P1.ne_strs aa)
 exists 0,0,p,L,zs,1,P5,ac,hN,λz2 H6 al P6 K6=>⟨_,0,1,fz tb al (),(sml rfl),λl hl=>?_⟩
 have au:=K6 _ _ ac (P5.ne_strs ac);have am:jR p H H6:=(K1.trans K5).trans K6;have s7:=qi hl (.lst (["text a "++z1,"text b "++z2,"row h"].map V.str));have e7:(upd H6 l (.lst (["text a "++z1,"text b "++z2,"row h"].map V.str))) l=u_ (.lst (["text a "++z1,"text b "++z2,"row h"].map V.str)):=qk;have P7:=P6.same s7;have ad:=s7 _ _ au;have K7:jR p H (upd H6 l (.lst (["text a "++z1,"text b "++z2,"row h"].map V.str))):=am.trans (jR.of s7);have Z:∀y∈(["text a "++z1,"text b "++z2,"row h"]:om Str),Wd 20 y:=λy U=>by
  simp![uC,uA,uP] at U;rcases U with rfl|rfl|rfl
  ·exact ta.cat ak ()
  ·exact tb.cat al ()
  ·exact[():()]
 show mX _ _ _ _ (upd H6 l (.lst (["text a "++z1,"text b "++z2,"row h"].map V.str)));generalize upd H6 l (.lst (["text a "++z1,"text b "++z2,"row h"].map V.str))=H7 at e7 P7 ad K7⊢;have aw:(["text a "++z1,"text b "++z2,"row h"]:om Str).length=3:=rfl;generalize (["text a "++z1,"text b "++z2,"row h"]:om Str)=th at e7 Z aw⊢
 exists 0,.inl [1:_:SqL.of e7]
 exists 0,nb,1,(),(),λD hD=>?_
 have nD:D≠p:=(P7.free hD).symm;have nl:l≠p:=P7.ne_strs e7;refine jP (lo:=0) (n:=nb) (tl:= [u_ (.ref p),u_ (.ref L),u_ (.int ((nb:Int)+4))]) (λi ys H'=>∃rs:om Str,ys=rs.map V.str/\↑rs=i/\(∀r∈rs,Wd 20 r)/\mw H' p/\(∀b o,H7 b=u_ o->b≠p->H' b=u_ o)) (Q6 ()) ⟨[],1,1,λb hb=>by simp at hb,P7.same (qi hD _),λb o e _=>qi hD _ _ _ e⟩ ?_ ?_
 ·rintro j ys H' hj ⟨rs,rfl,ao,ae,P',K'⟩ af U R hR;have ax:=K' _ _ ad (P7.ne_strs ad)
  exists 0,0,0,0,p,L,zs,nb+4,j,?_,P',ax,hN,(),(),(),λr H8 ay P8 K8=>?_
  ·rw[show(0:Int)+(j:Int)=(j:Int) by omega,show((nb+4:Nat):Int)=(nb:Int)+4 by omega]
   rfl
  ·refine hR _ H8 (K8 _ _ af nD) ⟨rs++ [r],by rw[uh];rfl,by rw[uq,ao];rfl,λb hb=>?_,?_,λb o e np=>?_⟩
   ·rcases Af.mp hb with h|h
    ·exact ae b h
    ·rw[vo] at h;subst h;exact ay
   ·erw[P8,x,e2,h2];exact⟨x,by rwa[qm nD.symm],h2⟩
   ·rw[qm (qo e hD)];exact K8 _ _ (K' b o e np) np
 ·rintro ys H' ⟨rs,rfl,ao,ae,P',K'⟩ af;have e8:=K' _ _ e7 nl
  exists l,D,_,0,1,e8,af,mt (by rw[u9,u9];omega)
  have e9:(upd H' l (.lst (th.map V.str++rs.map V.str))) l=u_ (.lst ((th++rs).map V.str)):=by rw[qk,uh]
  have P9:mw (upd H' l (.lst (th.map V.str++rs.map V.str))) p:=by
   erw[P',x,e2,h2];exact⟨x,by rwa[qm nl.symm],h2⟩
  have K9:jR p H (upd H' l (.lst (th.map V.str++rs.map V.str))):=λb o e np=>by
   rw[qm (qo (am b o e np) hl)];exact K' b o (K7 b o e np) np
  generalize upd H' l (.lst (th.map V.str++rs.map V.str))=H9 at e9 P9 K9⊢
  exists 0,0,p,(5),1,P9,(),(),λd9 aI g0 g1 aA ap=>?_
  erw[No g0 g1,c9,hc,aB];have aC:=ap _ _ e9 nl
  exists "abcdh",d9,c9,1,1,(),hc,_,0,1,(by show("say ":Str).length+1<=Vl;decide+kernel),(sml rfl),λq1 aD=>?_
  have aq:=qi aD (.lst [.str ("say "++⟨#[c9]⟩)]);have hw:Wd 20 ("say "++⟨#[c9]⟩:Str):=Wd.cat (n:=4) (m:=1) [():ug _] aB ()
  exists l,q1,_,0,1,aq _ _ aC,qk,mt (by rw[u9,uq];show _+1<=_;omega),λq2 aE=>?_
  have aF:=aq.trans (qi aE (.lst ((th++rs).map V.str++ [.str ("say "++⟨#[c9]⟩)])))
  exists q2,0,.inl [SqL.of qk:λt ht=>?_];have ag:=aF.trans (qi ht (.tup ((th++rs).map V.str++ [.str ("say "++⟨#[c9]⟩)])));have all:∀y∈th++rs++ [("say "++⟨#[c9]⟩:Str)],Wd 20 y:=λy U=>by
   rcases Af.mp U with U|U
   ·rcases Af.mp U with U|U
    ·exact Z y U
    ·exact ae y U
   ·cases Ae.mp U;exact hw
  have em:(th++rs).map V.str++ [.str ("say "++⟨#[c9]⟩)]=(th++rs++ [("say "++⟨#[c9]⟩:Str)]).map V.str:=by rw[uh (l₁:=th++rs)];rfl
  rw[em] at ag ht⊢;refine k _ _ _ (wx (l:=th++rs++ [("say "++⟨#[c9]⟩:Str)]) (by simp![uq,uU];omega) all) (xQ all ht) (aA.same ag) ((K9.trans ap).trans (jR.of ag))
def IL {y:Str}(O:Wd 20 z)(U:Wd 20 y):SG (.tup [.tup [.str z,.tup []],.str y]):=by
 have h1:=O.2;have h2:=U.2;have Z:Qz z=true:=by unfold Qz;rw[A9 (show ↑z<=300 by omega)];exact O.1
 have g2:Qz y=true:=by unfold Qz;rw[A9 (show ↑y<=300 by omega)];exact U.1
 have e:sz (.tup [.tup [.str z,.tup []],.str y])<=300:=by simp![sz,szL];omega
 exists ?_,by simp[lw,lwL,O.1,U.1],e
 unfold isT;rw[A9 (show sz (.tup [.tup [.str z,.tup []],.str y])<=600 by omega),A9 (show dp (.tup [.tup [.str z,.tup []],.str y])<=12 by simp![dp,dpL];omega)]
 simp[iO,goodL,Z,g2]
inductive NP:Sp
 |mk (p L:Addr)(zs:List Str)(_:vs= [.ref p,.ref L])(_:mw H p)(_:H L=u_ (.lst (zs.map V.str)))(_:Nm4 zs)(_:∀(v:V)(d:D)(H':Hp),xn d->Is H' d v->mw H' p->jR p H H'->Q v H')
def AI {k:Str}{d:D}(O:k="leaf"∨k="rule")(h:SG d):xn (.tup [.str k,d]):=IQ O h.1 h.2.1 h.2.2
def CY {k:Str}{d:D}(O:k="leaf"∨k="rule")(h:SG d)(Z:Is H d v)(q:∀t H',ie H H'->Is H' (.tup [.str k,d]) (.ref t)->xn (.tup [.str k,d])->Q (.ref t) H'): [V.str k,v].length<=Vl/\∀t,H t=U_->Q (.ref t) (upd H t (.tup [.str k,v])):=by
 exists sml rfl,λt U=>q t _ (qi U _) (Is.new (ds:= [.str k,d]) ⟨_,0,[1:?_],_,0,Z,1⟩ U) (AI O h);rcases O with rfl|rfl<;>decide+kernel
def O9:#[T,5,a.kl,a.W6,["pot","names"],C4]:=by
 have qW:=#[jU,T];have Q3:=#[wh,T];have zW:=#[DR,T];exists 9,T.mr,wU
 erw[h,p,L,zs,rfl,hP,hL,hN,k];have aa:∀{z:Str},Wd 4 z->Wd 20 z:=λh=>⟨h.1,by have:=h.2;omega⟩
 exists 3,%[#[qD,(2),wU.nd,#[qy,qW,T.ig,#v[pv 0,ql]]],#[qK,#[qt,Cj,pv 2,ql],%[|#[qv,#[qy,Q3,T.iC,#v[pv 0,pv 1]]]],qx],#[qK,#[qt,Qk,pv 2,ql],%[|#[qv,#[qR,qP,T.Qr,vc,#v[#[zk,["k","pot","names"],[0,1],En (qq xf) ["pot","names","kind"],#[yN,#v[#[qy,qW,T.ig,#v[pv 0,ql]]]],(λ_ _ _ _ _ _=>#[qU,(0),(show Vy (["k","pot","names"]:om Str) by decide+kernel)]),(λ_ _ _ _ _ _=>#[qy,Q3,T.iC,#v[pv 1,pv 2]])]]]]],qx],#[qK,#[qt,Qk,pv 2,ql],%[|#[qv,#[qB,#v[#[qB,#v[#[qy,Q3,T.iC,#v[pv 0,pv 1]],#[qB,qh]]],#[qy,Q3,T.iC,#v[pv 0,pv 1]]]]]],qx],#[qK,#[qt,Qk,pv 2,ql],%[|#[qv,#[qy,zW,T.mq,#v[pv 0,pv 1]]]],qx]|#[qv,#[qB,#v[#[qS,Qb,qp,#[qy,Q3,T.iC,#v[pv 0,pv 1]]],qp,qp]]]]
 exists 0,p,(6),1,hP,(),(),λd1 H1 a0 a1 P1 K1=>?_
 have O:=K1 _ _ hL (hP.ne_strs hL)
 exists 0,_,0,1,0,li (λ_=>?_) (λ_=>?_)
 ·exact⟨0,0,p,L,zs,1,P1,O,hN,λz H2 hz U Z=>k _ _ H2 (Mq (aa hz)) ⟨1,mt (by have:=hz.2;omega)⟩ U (K1.trans Z)⟩
 exists 0,1,0,li (λ_=>?_) (λ_=>?_)
 ·exists 0,p,(4),1,P1,(),(),λd2 H2 b0 b1 U Z=>?_
  have ac:=Z _ _ O (P1.ne_strs O);obtain⟨n,rfl,hn⟩:∃n:Nat,d2=(n:Int)/\n<4:=[d2.toNat:():()]
  exists n,1,(),(),λD hD=>?_
  have nD:D≠p:=(U.free hD).symm;refine jP (lo:=0) (n:=n) (tl:= [u_ (.ref p),u_ (.ref L)]) (λi ys H'=>∃rs:om Str,ys=rs.map V.str/\↑rs=i/\(∀r∈rs,Wd 20 r)/\mw H' p/\(∀b o,H2 b=u_ o->b≠p->H' b=u_ o)) (Q6 ()) ⟨[],1,1,λb hb=>by simp at hb,U.same (qi hD _),λb o e _=>qi hD _ _ _ e⟩ ?_ ?_
  ·rintro j ys H' hj ⟨rs,rfl,af,ad,P',K'⟩ ae hy R hR;have ao:=K' _ _ ac (U.ne_strs ac)
   exists 0,0,p,L,zs,1,P',ao,hN,λr H8 ap P8 K8=>?_;refine hR _ H8 (K8 _ _ ae nD) ⟨rs++ [r],by rw[uh];rfl,by rw[uq,af];rfl,λb hb=>?_,?_,λb o e np=>?_⟩
   ·rcases Af.mp hb with h|h
    ·exact ad b h
    ·rw[vo] at h;subst h;exact aa ap
   ·erw[P8,x,e2,h2];exact⟨x,by rwa[qm nD.symm],h2⟩
   ·rw[qm (qo e hD)];exact K8 _ _ (K' b o e np) np
  ·rintro ys H' ⟨rs,rfl,af,ad,P',K'⟩ ae
   exists D,0,.inl [SqL.of ae:λt ht=>?_];have s3:=qi ht (.tup (rs.map V.str));exact k _ _ _ (wx () ad) (xQ ad ht) (P'.same s3) (λb o e np=>s3 _ _ (K' b o ((K1.trans Z) b o e np) np))
 exists 0,1,0,li (λ_=>?_) (λ_=>?_)
 ·exists 0,0,p,L,zs,1,P1,O,hN,λz1 H2 ag U Z=>[uG _:λt0 ah=>[sml rfl:λt1 ak=>?_]];have ac:=Z _ _ O (P1.ne_strs O);have s0:=qi ah (.tup ([]:om V));have s1:=s0.trans (qi ak (.tup [.str z1,.ref t0]));have i0:Is (upd H2 t0 (.tup [])) (.tup []) (.ref t0):=Is.new (ds:= []) rfl ah;have i1:Is (upd (upd H2 t0 (.tup [])) t1 (.tup [.str z1,.ref t0])) (.tup [.str z1,.tup []]) (.ref t1):=Is.new (ds:= [.str z1,.tup []]) ⟨_,0,⟨1,mt (by have:=ag.2;omega)⟩,_,0,i0,1⟩ ak
  generalize upd (upd H2 t0 (.tup [])) t1 (.tup [.str z1,.ref t0])=H3 at s1 i1⊢;have P3:=U.same s1
  exists 0,0,p,L,zs,1,P3,s1 _ _ ac,hN,λz2 H4 al P4 K4=>[sml rfl:λt2 am=>?_];have s2:=qi am (.tup [.ref t1,.str z2]);refine k _ _ _ (IL (aa ag) (aa al)) (Is.new (ds:= [.tup [.str z1,.tup []],.str z2]) ⟨_,0,i1.mono (P3.tk P4 K4),_,0,⟨1,mt (by have:=al.2;omega)⟩,1⟩ am) (P4.same s2) ((((K1.trans Z).trans (jR.of s1)).trans K4).trans (jR.of s2))
 exists 0,1,0,li (λ_=>?_) (λ_=>?_)
 ·exact⟨0,0,p,L,zs,1,P1,O,hN,λv d H2 hd hv U Z=>k v d H2 hd hv U (K1.trans Z)⟩
 ·have ta:Wd 7 "text a ":=[():ug _]
  exists 0,0,p,L,zs,1,P1,O,hN,λz H2 hz U Z=>⟨_,0,1,mt (by have:=hz.2;have:=ta.2;omega),sml rfl,λt ht=>?_⟩
  have all:∀y∈(["text a "++z,"ask b a","say b"]:om Str),Wd 20 y:=λy hy=>by
   simp![uC,uA,uP] at hy;rcases hy with rfl|rfl|rfl
   ·exact ta.cat hz ()
   ·exact[():()]
   ·exact[():()]
  have s2:=qi ht (.tup ((["text a "++z,"ask b a","say b"]:om Str).map V.str));exact k _ _ _ (wx (by show 3<=14;decide) all) (xQ all ht) (U.same s2) ((K1.trans Z).trans (jR.of s2))
def OX:#[T,6,a.ZC,a.Zk,["pot","names"],NP]:=by
 have qW:=#[jU,T];have kr:=#[O9,T];have zW:=#[DR,T];have O:=#[Lu,T];exists 9,T.mz,XQ
 erw[h,p,L,zs,rfl,hP,hL,hN,k];have ad:=hN.1;have ae:=hN.2.1;exists 3,%[#[qD,(2),XQ.nd,#[qy,qW,T.ig,#v[pv 0,ql]]],#[qK,#[qt,Cj,pv 2,ql],%[|#[qv,#[qB,#v[qp,#[qy,kr,T.mr,#v[pv 0,pv 1]]]]]],qx],#[qK,#[qt,Cj,pv 2,ql],%[|#[qv,#[qB,#v[qp,#[qy,zW,T.mq,#v[pv 0,pv 1]]]]]],qx],#[qK,#[qt,Qk,pv 2,ql],%[|#[qv,#[qB,#v[qp,#[qy,O,T.mM,#v[pv 0,pv 1]]]]]],qx],@qK _ _ _ _ _ _ _ _ #[zm,#[qt,Qk,pv 2,ql],#[Jy,#[qt,Qk,#[qy,qW,T.ig,#v[pv 0,ql]],ql]]].pt %[|#[qv,#[qB,#v[qp,#[qy,kr,T.mr,#v[pv 0,pv 1]]]]]] qx|#[qv,#[qB,#v[qp,#[qJ,QN,pv 1,#[qy,qW,T.ig,#v[pv 0,#[qA,qL,T.yh,uH,#v[pv 1]]]]]]]]]
 exists 0,p,(10),1,hP,(),(),λd1 H1 a0 a1 P1 K1=>?_
 have Z:=K1 _ _ hL (hP.ne_strs hL);have fin:∀{H3 H2:Hp}{kk:Str}{d:D}{v:V},mw H3 p->jR p H H3->kk="leaf"∨kk="rule"->SG d->Is H2 d v->mw H2 p->jR p H3 H2-> [V.str kk,v].length<=Vl/\∀t,H2 t=U_->Q (.ref t) (upd H2 t (.tup [.str kk,v])):=λ{H3 H2 kk d v} P3 K3 hk hd U P2 K2=>
  CY hk hd U λt H4 s4 i4 o4=>k _ _ H4 o4 i4 (P2.same s4) ((K3.trans K2).trans (jR.of s4))
 exists 0,_,0,1,0,li (λ_=>?_) (λ_=>?_)
 ·exact⟨0,0,p,L,zs,1,P1,Z,hN,λv d H2 hd U P2 K2=>fin P1 K1 (.inl rfl) hd U P2 K2⟩
 exists 0,_,0,1,0,li (λ_=>?_) (λ_=>?_)
 ·exact⟨0,0,p,L,zs,1,P1,Z,hN,λv d H2 hd U P2 K2=>fin P1 K1 (.inr rfl) hd U P2 K2⟩
 exists 0,1,0,li (λ_=>?_) (λ_=>?_)
 ·exact⟨0,0,p,L,zs,1,P1,Z,hN,λv d H2 hd U P2 K2=>fin P1 K1 (.inr rfl) hd U P2 K2⟩
 show mX _ _ _ _ H1;refine qC λN0 n0=>n0 _ _ ?_;exists 8,BB,bb;have made:∀{H3:Hp},mw H3 p->jR p H H3->BB [u_ (V.ref p),u_ (V.ref L),u_ (V.int d1)] H3:=by
  intro H3 P3 K3;refine bb _ _ ?_;have aa:=K3 _ _ hL (hP.ne_strs hL)
  exists 5
  refine⟨0,0,0,L,0,.inl (SqL.of aa),p,0,P3,by rw[u9];omega,by rw[u9];omega,λd2 H4 b0 b1 P4 K4=>?_⟩
  erw[YB (xs:=zs.map V.str) b0 b1,v,U];erw[Ag.mp (jM U),z,hz,rfl]
  exists L,_,_,0,1,SqL.of (K4 _ _ aa (P3.ne_strs aa)),U,sml rfl,λt ht=>?_;have s4:=qi ht (.tup [.str "made",.str z]);have ac:=hN.2.2 z hz;exact k _ _ _ (IP ac.1) (Is.new (ds:= [.str "made",.str z]) ⟨_,0,[1:()],_,0,[1:mt ()],1⟩ ht) (P4.same s4) ((K3.trans K4).trans (jR.of s4))
 exists 0,1,0,li (λ_=>?_) (λ_=>?_)
 ·exists 0,p,(4),1,P1,(),(),λd2 H2 b0 b1 P2 K2=>[1:0:li (λ_=>?_) (λ_=>?_)]
  ·exact⟨0,0,p,L,zs,1,P2,K2 _ _ Z (P1.ne_strs Z),hN,λv d H3 hd U P3 K3=>fin P2 (K1.trans K2) (.inr rfl) hd U P3 K3⟩
  ·exact made P2 (K1.trans K2)
 ·exact iW (made P1 K1)
def SqL.keepK {K:o0}{a:o6}(e:∀o,H a=u_ o->H' a=u_ o)(h:SqL K H a xs):SqL K H' a xs:=by
 rcases h with(h|⟨o,h⟩)|h
 ·exact .inl (.inl (e _ h))
 ·exact .inl (.inr [o:e _ h])
 ·exact .inr h
nonrec def N8:om Str:= ["a","b1","c/d","e.f","g","h9","k","m/n"]
def Aa0:∀z∈N8,nm z=v_/\↑z<=4:=by decide+kernel
def AcN:N8.Nodup:=by decide+kernel
def Z2 {vs:om V}:sN vs U_ (u_ (n:Int))=vs.take n:=by
 unfold sN;rw[HT.sIx_none,HT.sIx_nat,Hu,Nat.sub_zero];rcases tU n ↑vs with h|h
 ·rw[Fp h]
 ·rw[Nat.min_eq_right h,ve (ug _),ve h]
def EF {ns:om Int}:∀{ys:om V},(∀y∈ys,y∈ns.map V.int)->∃O:om Int,ys=O.map V.int
 | [],_=>[[]:1]
 |y::r,h=>by
  erw[Ag.mp (h y ue),i,_,e];obtain⟨O,U⟩:=EF (ys:=r) λz Z=>h z (uc _ Z);exact⟨i::O,by rw[U,<-e];rfl⟩
def qam {K:o0}(h:SqL K H q xs)(s:ie H H'):SqL K H' q xs:=SqL.keepK (λo e=>s _ _ e) h
nonrec def Adw (i:Int):Str:=Vs i
nonrec def nK (k:Nat):Str:="n"++Adw (8+(k:Int))
def AaY:∀k:Nat,k<52->nm (nK k)=v_/\↑(nK k)<=4:=by decide+kernel
def AcL:(N8++(Vn 52).map nK).Nodup:=by decide+kernel
nonrec def ZZ:om Str:= ["zz"]
def Ab9:nm "zz"=v_/\("zz":Str).length<=4:=by decide+kernel
nonrec def A60:om Str:=N8++(Vn 52).map nK
nonrec def NmU (zs:om Str):Prop:=Nm4 zs/\zs.Nodup/\∀z∈zs,z∈A60
def Eg (h1:1<=n)(h2:n<=8):NmU (N8.take n):=by
 have e:↑(N8.take n)=n:=by rw[vw];show min n 8=n;omega
 exact[[():():λz O=>Aa0 z (vY O)]:Rf (RF _ _) AcN:λz O=>vn _ (vY O)]
variable {j:Nat}
def AaZ (h:j<=52):NmU (N8++(Vn j).map nK):=by
 refine⟨⟨by rw[uq];show 1<=8+_;omega,by rw[uq,u9,F0];show 8+j<=60;omega,λz O=>?_⟩,Rf (RW (Tv _) (Rm _ (List.range_sublist.mpr h))) AcL,λz O=>(RW (Tv N8) (Rm nK (List.range_sublist.mpr h))).mem O⟩
 rcases Af.mp O with h1|h1
 ·exact Aa0 z h1
 ·erw[Ag.mp h1,k,U,rfl];exact AaY k (by have:=List.mem_range.mp U;omega)
inductive Dg (K:PySem.W.Frag):Sp
 |mk (q:Addr)(ns:List Int)(_:vs= [.ref q])(_:SqL K H q (ns.map V.int))(_:∀(L:Addr)(zs:List Str)(H':Hp),ie H H'->H' L=u_ (.lst (zs.map V.str))->NmU zs->Q (.ref L) H')
inductive Ob:Sp
 |mk (p L:Addr)(zs:List Str)(j:Int)(_:vs= [.ref p,.ref L,.int j])(_:0<=j)(_:j<=1000)(_:mw H p)(_:H L=u_ (.lst (zs.map V.str)))(_:Nm4 zs)(_:∀(v:V)(d:D)(H':Hp),xn d->Is H' d v->mw H' p->jR p H H'->Q v H')
inductive NZ (K:PySem.W.Frag):Sp
 |mk (q:Addr)(ns:List Int)(_:vs= [.ref q])(_:SqL K H q (ns.map V.int))(_:∀(L:Addr)(ps:List (Str×D))(us:List V)(H':Hp),ie H H'->H' L=u_ (.lst us)->L2.IsL H' (ps.map prD) us->Nr ps->(∀p∈ps,↑p.1<=4/\p.1∈A60)->↑ps<=60->Q (.ref L) H')
inductive La (K:PySem.W.Frag):Sp
 |mk (q:Addr)(ns:List Int)(st:Int)(n:Nat)(_:vs= [.ref q,.int st,.int (n:Int)])(_:SqL K H q (ns.map V.int))(_:0<=st)(_:st<1000)(_:n<=100)(_:∀(L:Addr)(zs:List Str)(H':Hp),ie H H'->H' L=u_ (.lst (zs.map V.str))->(∀z∈zs,nm z=v_/\↑z<=4)->Q (.ref L) H')
def D6:#[T,2,a.Jq,a.J6,["script"],(Dg K)]:=by
 have QI:=#[Aj,T];exists 9,T.iP,Yu
 erw[h,q,ns,rfl,hq,k];have hs:=uw;exists 3,%[#[qD,(1),Yu.nd,#[qy,QI,T.ix,#v[pv 0,ql]]],#[qD,(2),Yu.nd,#[QA,#v[qp,qp,qp,qp,qp,qp,qp,qp]]],#[qK,#[qt,Qk,#[qS,yS,#[qS,zy,pv 1,ql],ql],ql],%[|#[qv,#[qS,WO,pv 2,#[zk,["k"],[],PU,#[ou,7,_,T.Y3,#v[ql,#[qS,yf,ql,#[qS,yS,#[qS,zy,pv 1,ql],ql]]],_,_],(λ_ _ _ _ _ _=>#[qU,(0),(show Vy (["k"]:om Str) by decide+kernel)]),(λ_ _ _ _ _ _=>#[qS,Qb,qp,#[qR,Yi,T.XL,UL,#v[pv 0]]])]]]],qx]|#[qv,#[Yc,xT,pv 2,jl,#[YT,#[qS,yf,ql,#[qS,yS,pv 1,ql]]]]]]
 exists 8,N1,q1
 exists 0,q,ns,(0),1,(),hq,λc=>q1 _ _ ?_
 exists 8,N2,q2
 exists sml rfl,λl0 U=>q2 _ _ ?_;have Z:=qi U (.lst (N8.map V.str));have e0:(upd H l0 (.lst (N8.map V.str))) l0=u_ (.lst (N8.map V.str)):=qk;show mX _ _ _ _ (upd H l0 (.lst (N8.map V.str)));generalize upd H l0 (.lst (N8.map V.str))=H0 at Z e0⊢;exists 8,N3,q3
 exists 0,_,0,1,[():()],_,0,1,(by show(0:Int)<8;decide),1,0,li (λ_=>?_) (λ_=>q3 _ _ ?_)
 ·have m1:0<=c/64%52/\c/64%52<52:=[vF _ ():vq _ ()]
  exists 0,0,_,0,1,[():()],_,0,1,(by show(0:Int)<52;decide),_,0,1,_,0,⟨(),(),(),()⟩,λD hD=>?_
  obtain⟨j,hj,aa⟩:∃j:Nat,(9+c/64%52-8).toNat=j/\j<=52:=[0:()]
  rw[hj];refine jP (lo:=8) (n:=j) (tl:= []) (λi ys H'=>ys=((Vn i).map nK).map V.str/\ie H0 H') (Q6 ()) [1:qi hD _] ?_ ?_
  ·rintro i ys H' hi ⟨rfl,s1⟩ O hy R hR;have hn:=AaY i ()
   have ac:(8+(i:Int)).natAbs.log2<1920:=vV (UR _) ()
   exists 0,0,ac,_,0,1,?_,?_
   ·have:=hn.2;rw[<-Kz];exact mt (uL this ())
   ·refine hR _ H' O ⟨?_,λb o e=>by rw[qm (qo e hD)];exact s1 b o e⟩
    rw[Uf,uh,uh]
    rfl
  ·rintro ys H' ⟨rfl,s1⟩ O;have e1:=s1 _ _ e0;erw[AaZ aa,n1,n2]
   exists l0,D,_,0,1,e1,O,?_,λt ht=>?_
   ·rw[u9,u9,<-uq];exact mt (by have:=n1.2.1;omega)
   ·refine k t (N8++(Vn j).map nK) _ ((Z.trans s1).trans (qi ht _)) ?_ [n1:n2];rw[qk,uh]
 ·have m1:0<=c%8/\c%8<8:=[vF _ ():vq _ ()]
  obtain⟨n,hn,ad,ae⟩:∃n:Nat,1+c%8=(n:Int)/\1<=n/\n<=8:=⟨(1+c%8).toNat,(),(),()⟩
  exists 0,0,_,0,1,(by show(0:Int)<8;decide),_,0,1
  try dsimp only
  rw[hn]
  exists 0,l0,0,SqL.of e0,λl hl=>?_;rw[Z2,<-HF];exact k l (N8.take n) _ (Z.trans (qi hl _)) qk (Eg ad ae)
def O7:#[T,2,a.kE,a.kP,["pot","names","k"],Ob]:=by
 have qW:=#[jU,T];exists 9,T.mY,wK
 erw[h,p,L,zs,j,rfl,ad,ae,hP,hL,hN,k];have ac:=hP.ne_strs hL;exists 3,%[#[qD,(3),wK.nd,#[qJ,QN,pv 1,#[qS,yS,#[qS,yf,#[qS,yf,pv 2,ql],#[qy,qW,T.ig,#v[pv 0,ql]]],#[qA,qL,T.yh,uH,#v[pv 1]]]]]|#[qv,#[qB,#v[qp,#[qB,#v[#[qS,Qb,qp,pv 3],qp,qp]]]]]]
 exists 0,0,_,0,1,0,p,(3),1,hP,(),(),λd1 H1 a0 a1 P1 K1=>?_
 have U:=K1 _ _ hL ac;have Z:0<(↑(zs.map V.str):Int):=by rw[u9];have:=hN.1;omega
 exists _,0,1,0,L,0,.inl (SqL.of U),_,0,1,Z;erw[YB (xs:=zs.map V.str) (i:=(j+1+d1)%(↑(zs.map V.str):Int)) (vF _ ()) (vq _ Z),x1,aa]
 erw[Ag.mp (jM aa),z,hz,rfl]
 exists L,_,_,0,1,SqL.of U,aa;have O:=hN.2.2 z hz;have ta:Wd 7 "text a ":=[():ug _]
 have wz:Wd 4 z:=[kK O.1:O.2]
 exists 0,_,0,1,mt (by have:=O.2;have:=ta.2;omega),sml rfl,λt ht=>?_
 have all:∀y∈(["text a "++z,"ask b a","say b"]:om Str),Wd 20 y:=λy hy=>by
  simp![uC,uA,uP] at hy;rcases hy with rfl|rfl|rfl
  ·exact ta.cat wz ()
  ·exact[():()]
  ·exact[():()]
 have s2:=qi ht (.tup ((["text a "++z,"ask b a","say b"]:om Str).map V.str));exact CY (.inr rfl) (wx (by show 3<=14;decide) all) (xQ all ht) λt2 H2 s3 i3 h3=>k _ _ H2 h3 i3 ((P1.same s2).same s3) ((K1.trans (jR.of s2)).trans (jR.of s3))
def Lv:#[T,7,a.zn,a.X7,["script"],(NZ K)]:=by
 have YU:=#[D6,T];have aa:=#[O7,T];have qW:=#[jU,T];have wR:=#[DW,T];have U:=#[OX,T];exists 9,T.mn,Q4
 erw[h,q,ns,rfl,hq,k];have hs:=uw;exists 3,%[#[qD,(1),Q4.nd,#[qy,YU,T.iP,#v[pv 0]]],#[qD,(2),Q4.nd,#[QA,qh]],#[Yh,#[yN,#v[#[qA,qL,T.yh,uH,#v[pv 1]]]],#[qU,(3),Q4.nd],%[#[qD,(4),Q4.nd,#[qA,#[sA,1,rfl],T.z_sum,boot_sum,#v[#[Dv,9,pv 0,#[YT,#[qS,yf,ql,pv 3]],#[qA,#[Io,1,rfl],T.z_max,boot_max,#v[ql,#[qA,qL,T.yh,uH,#v[pv 1]]]],_]]]],#[qD,(5),Q4.nd,#[qy,wR,T.mH,#v[pv 4,pv 3]]]|@qK _ _ _ _ _ _ _ _ #[zm,#[qt,oE,#[qA,qL,T.yh,uH,#v[pv 1]],ql],#[Jy,#[qt,Qk,#[qy,qW,T.ig,#v[pv 5,ql]],ql]]].pt %[|#[Qd,#[Y4,uJ,vh,vi,yF,pv 2,#v[#[qB,#v[#[qJ,QN,pv 1,pv 3],#[qy,aa,T.mY,#v[pv 5,pv 1,pv 3]]]]]]]] %[|#[qK,#[qt,OR,#[qS,yS,pv 4,ql],ql],%[|#[Qd,#[Y4,uJ,vh,vi,yF,pv 2,#v[#[qB,#v[#[qJ,QN,pv 1,pv 3],#[qy,U,T.mz,#v[pv 5,pv 1]]]]]]]],qx]]]]|#[qv,pv 2]]
 exists 8,N1,q1
 exists 0,q,ns,1,hq,λl zs H1 s1 e1 hU=>q1 _ _ ?_;erw[hU,hN,ay];exists 8,N2,q2
 exists uG _,λL hL=>q2 _ _ ?_;exists 8,N3,q3;have s2:=s1.trans (qi hL (.lst ([]:om V)));have aE:H L=none:=s1.free hL;have aF:l≠L:=qo e1 hL;have e2:=qi hL (.lst ([]:om V)) _ _ e1;have eL:(upd H1 L (.lst [])) L=u_ (.lst []):=qk;generalize upd H1 L (.lst [])=H2 at s2 e2 eL⊢;have aK:=hN.2.1
 exists 0,l,0,.inl (SqL.of e2),↑zs,by rw[u9],(),()
 let J_:Nat->L2.St->Hp->Prop:=λi σ H'=>∃(ps:om (Str×D)) (us:om V) (x3 x4 x5:oq V),σ= [u_ (.ref q),u_ (.ref l),u_ (.ref L),x3,x4,x5]/\ie H H'/\H' l=u_ (.lst (zs.map V.str))/\H' L=u_ (.lst us)/\L2.IsL H' (ps.map prD) us/\(ps.map (·.1)).Sublist (zs.take i)/\∀p∈ps,xn p.2
 refine zl (n:=↑zs) J_ ⟨[],[],U_,U_,U_,1,s2,e2,eL,1,List.nil_sublist _,λp hp=>by simp at hp⟩ ?_ ?_
 ·rintro i σ H' hi ⟨ps,us,x3,x4,x5,rfl,sm,el,ap,ak,O,ad⟩;have aL:↑ps<=60:=by
   have h1:=O.length_le;rw[u9,vw] at h1;omega
  have aG:=↑ak;rw[u9] at aG;have aM:(↑(zs.map V.str):Int)=(↑zs:Int):=by rw[u9]
  show mX _ _ _ _ H';exists 8,B1,b1
  exists 0,0,_,0,1,0,0,l,0,.inl (SqL.of el),_,0,0,(by split<;>omega),q,0,qam hq sm,λys y0 _ aA aH=>?_
  erw[EF aA,ms,rfl];have sy:=qi aH (.lst (ms.map V.int));have ey:(upd H' y0 (.lst (ms.map V.int))) y0=u_ (.lst (ms.map V.int)):=qk;have ag:=sy _ _ ap;have ah:=sy _ _ el;generalize upd H' y0 (.lst (ms.map V.int))=H3 at sy ey ag ah⊢;have am:=ak.mono sy.tk;have aB:=sm.trans sy
  exists y0,ms,1,SqL.of ey,b1 _ _ ?_;exists 8,B2,b2
  exists 0,0,_,0,(),(),λp H4 hp s4 P4=>b2 _ _ ?_
  have ac:=s4 _ _ ah;have aq:=s4 _ _ ag;have au:L≠p:=qo ag hp;have ae:l≠p:=qo ah hp;have aw:i<↑zs:=hi;have ax:atI (zs.map V.str) (0+(i:Int))=u_ (V.str zs[i]):=by
   rw[show(0:Int)+(i:Int)=((i:Nat):Int) by omega]
   exact Qn (by rw[uD,uf aw];rfl)
  have hz:=hN.2.2 _ (uW aw);have put:∀(v:V) (d:D) (H5:Hp) (x3 x4 x5:oq V),xn d->Is H5 d v->jR p H4 H5->∀t,H5 t=U_->qah (.ref L) [.ref t] (upd H5 t (.tup [.str zs[i],v])) (λ_ H1=>J_ (i+1) [u_ (.ref q),u_ (.ref l),u_ (.ref L),x3,x4,x5] H1):=by
   intro v d H5 x3 x4 x5 hd hv Z t ht;have af:ie H3 H5:=Z.same s4 hp;have st:=qi ht (.tup [.str zs[i],v]);have aC:Is (upd H5 t (.tup [.str zs[i],v])) (prD (zs[i],d)) (.ref t):=Is.new (ds:= [.str zs[i],d]) ⟨_,0,[1:mt ()],_,0,hv,1⟩ ht
   generalize upd H5 t (.tup [.str zs[i],v])=H6 at st aC⊢;have al:=af.trans st;have aD:=al _ _ ag
   exists L,us,0,1,aD,()
   have tk:Tk H6 (upd H6 L (.lst (us++ [.ref t]))):=Tk.updL aD
   exists ps++ [(zs[i],d)],us++ [.ref t],_,_,0,λb o e=>?_,?_,qk,?_,?_,λp' aI=>?_
   ·rw[qm (qo e aE)];exact al _ _ (aB _ _ e)
   ·rw[qm aF];exact al _ _ ah
   ·rw[uh];exact((am.mono al.tk).mono tk).append (L2.IsL.one (aC.mono tk))
   ·rw[IM aw,uh];exact O.append (Tv _)
   ·rcases Af.mp aI with h|h
    ·exact ad p' h
    ·cases Ae.mp h;exact hd
  have ao:∀(H5:Hp) (x3 x4 x5:oq V),jR p H4 H5->J_ (i+1) [u_ (.ref q),u_ (.ref l),u_ (.ref L),x3,x4,x5] H5:=λH5 x3 x4 x5 Z=>by
   have af:ie H3 H5:=Z.same s4 hp;exact⟨ps,us,_,_,0,aB.trans af,af _ _ ah,af _ _ ag,am.mono af.tk,O.trans (by rw[IM hi];exact List.sublist_append_left _ _),ad⟩
  exists 0,l,0,.inl (SqL.of ac),_,0,1,0;by_cases c8:(8:Int)<(↑(zs.map V.str):Int)
  ·refine lh (A9 c8) ?_
   exists 0,p,(3),1,P4,(),(),λd5 H5 a5 b5 P5 Z=>[1:0:?_]
   by_cases c3:d5=0
   ·refine lh (A9 (by rw[c3])) ?_
    exists 0,.inl [1:_:SqL.of (Z _ _ aq au)],0,0,l,_,_,V.str zs[i],1,1,SqL.of (Z _ _ ac ae),ax;exact⟨0,0,0,p,l,zs,0,(),(),P5,Z _ _ ac ae,hN,λv d H6 hd hv P6 K6=>[sml rfl:put v d H6 _ _ _ hd hv (Z.trans K6)]⟩
   ·refine iN (ub (λz=>c3 (V.int.inj z))) ?_
    exists 0,_,0,1,(by show(0:Int)<11;decide),1,0,li (λ_=>?_) (λ_=>ao _ _ _ _ Z)
    exists 0,.inl [1:_:SqL.of (Z _ _ aq au)],0,0,l,_,_,V.str zs[i],1,1,SqL.of (Z _ _ ac ae),ax;exact⟨0,0,p,l,zs,1,P5,Z _ _ ac ae,hN,λv d H6 hd hv P6 K6=>[sml rfl:put v d H6 _ _ _ hd hv (Z.trans K6)]⟩
  ·refine iN (ub c8) ?_;have Z:=jR.refl p H4;have P5:=P4
   exists 0,_,0,1,(by show(0:Int)<11;decide),1,0,li (λ_=>?_) (λ_=>ao _ _ _ _ Z)
   exists 0,.inl [1:_:SqL.of (Z _ _ aq au)],0,0,l,_,_,V.str zs[i],1,1,SqL.of (Z _ _ ac ae),ax;exact⟨0,0,p,l,zs,1,P5,Z _ _ ac ae,hN,λv d H6 hd hv P6 K6=>[sml rfl:put v d H6 _ _ _ hd hv (Z.trans K6)]⟩
 ·rintro σ H' ⟨ps,us,x3,x4,x5,rfl,sm,el,ap,ak,O,ad⟩;rw[vy] at O;have aJ:=O.length_le;rw[u9] at aJ;refine q3 _ _ ?_;exact[0:k L ps us H' sm ap ak [[λz hz=>(hN.2.2 z (O.mem hz)).1:ay.1.sublist O]:ad] (λp hp=>[(hN.2.2 _ (O.mem (Up hp))).2:ay.2 _ (O.mem (Up hp))]) ()]
def OU:#[T,3,a.j3,a.Je,["script"],(Dg K)]:=by
 have Z:=#[D6,T];exists 9,T.lI,jA
 erw[h,q,ns,rfl,hq,k];exists 3,%[#[qD,(1),jA.nd,#[qy,Z,T.iP,#v[pv 0]]],#[qK,#[qt,Cj,#[qA,qL,T.yh,uH,#v[pv 1]],ql],%[|#[qv,#[QA,#v[qp,qp,qp,qp,qp,qp,qp,qp]]]],qx]|#[qv,pv 1]]
 exists 0,q,ns,1,hq,λl zs H1 s1 U hU=>?_
 exists 0,l,0,.inl (SqL.of U),_,0,1,0,li (λ_=>?_) (λ_=>[0:k l zs H1 s1 U hU])
 exists sml rfl,λl0 O=>?_;exact k l0 N8 _ (s1.trans (qi O _)) qk (Eg (n:=8) () ())
def LD:#[T,4,a.jF,a.jD,["script","salt","many"],(La K)]:=by
 have ZO:=#[OU,T];have qW:=#[jU,T];have wR:=#[DW,T];exists 9,T.lz,yO
 erw[h,q,ns,st,n,rfl,hq,h0,h1,hn,k];have hs:=uw;exists 3,%[#[qD,2,(3),4,yO.nd,rfl,VV rfl,#[qy,wR,T.mH,#v[#[qA,#[sA,1,rfl],T.z_sum,boot_sum,#v[pv 0]],pv 1]],_,_],#[qD,2,(4),4,yO.nd,rfl,VV rfl,#[qS,WO,#[qy,ZO,T.lI,#v[pv 0]],#[QA,#v[qp]]],_,_]|#[qv,#[zk,["k","names","pot"],[4,3],En (qq yd) ["script","salt","many","pot","names"],#[yN,#v[pv 2]],(λ_ _ _ _ _ _=>#[qU,(0),(show Vy (["k","names","pot"]:om Str) by decide+kernel)]),(λ_ _ _ _ _ _=>#[qJ,#[LS,1,K,rfl],pv 1,#[qy,qW,T.ig,#v[pv 2,#[qA,#[Kw,1,K,rfl],T.yh,uH,#v[pv 1]]]]])]]]
 exists 8,N1,q1
 exists 0,q,ns,1,hq,0,_,0,h0,h1,λp H1 ad s1 P1=>q1 _ _ ?_;exists 8,N2,q2
 exists 0,q,ns,1,qam hq s1,λl zs H2 s2 e2 hU=>?_
 exists sml rfl,λl3 h3=>?_;have s3:=qi h3 (.lst [V.str "zz"]);have hl:=hU.1.2.1
 exists l,l3,_,0,1,s3 _ _ e2,qk,(by rw[u9];show _+1<=Vl;omega),λl4 h4=>q2 _ _ ?_
 have s4:=qi h4 (.lst (zs.map V.str++ [V.str "zz"]));have e4:upd (upd H2 l3 (.lst [V.str "zz"])) l4 (.lst (zs.map V.str++ [V.str "zz"])) l4=u_ (.lst ((zs++ZZ).map V.str)):=by
  rw[qk,uh]
  rfl
 have O:=(s2.trans s3).trans s4;have P4:=P1.same O;have hz:∀z∈zs++ZZ,nm z=v_/\↑z<=4:=λz hz=>by
  rcases Af.mp hz with h|h
  ·exact hU.1.2.2 z h
  ·cases Ae.mp h;exact Ab9
 have ag:↑(zs++ZZ)=↑zs+1:=uq;generalize upd (upd H2 l3 (.lst [V.str "zz"])) l4 (.lst (zs.map V.str++ [V.str "zz"]))=H4 at e4 O P4⊢;have aa:=P4.ne_strs e4
 exists 0,0,(),(),λD hD=>?_
 have nD:D≠p:=(P4.free hD).symm;have ae:H p=none:=ad;refine jP (lo:=0) (n:=n) (tl:= [u_ (.ref l4),u_ (.ref p)]) (λi ys H'=>∃rs:om Str,ys=rs.map V.str/\(∀r∈rs,nm r=v_/\↑r<=4)/\mw H' p/\(∀b o,H4 b=u_ o->b≠p->H' b=u_ o)) (Q6 ()) ⟨[],1,(λb hb=>by simp at hb),P4.same (qi hD _),λb o e _=>qi hD _ _ _ e⟩ ?_ ?_
 ·rintro i ys H' hi ⟨rs,rfl,U,P',K'⟩ Z hy R hR;have e5:=K' _ _ e4 aa
  exists 0,0,0,l4,0,.inl (SqL.of e5),p,0,P',(by rw[u9];omega),(by rw[u9];omega),λd6 H6 a6 b6 P6 K6=>?_
  erw[YB (xs:=(zs++ZZ).map V.str) (i:=d6) a6 b6,x1,ac];erw[Ag.mp (jM ac),z,af,rfl]
  exists l4,_,_,0,1,SqL.of (K6 _ _ e5 aa),ac;refine hR _ H6 (K6 _ _ Z nD) ⟨rs++ [z],by rw[uh];rfl,λb hb=>?_,?_,λb o e np=>?_⟩
  ·rcases Af.mp hb with h|h
   ·exact U b h
   ·rw[vo] at h;subst h;exact hz b af
  ·erw[P6,x,e2,h2];exact⟨x,by rwa[qm nD.symm],h2⟩
  ·rw[qm (qo e hD)];exact K6 _ _ (K' b o e np) np
 ·rintro ys H' ⟨rs,rfl,U,P',K'⟩ Z;exact k D rs H' (λb o e=>K' b o (O _ _ (s1 _ _ e)) (qo e ae)) Z U
inductive Oo:Sp
 |mk (v:V)(d:D)(_:vs= [v])(_:Is H d v)(_:∀(u:V)(H':Hp),ie H H'->((ya d).isSome=v_->u= .non)->((ya d).isSome=Vh->u≠ .non)->Q u H')
inductive De:Sp
 |mk (v:V)(d:D)(_:vs= [v])(_:Is H d v)(_:∀H',ie H H'->Q (.bl (ya d).isSome) H')
def Pv:#[C,4,a.kj,a.W7,["tree"],Oo]:=by
 have Z:=#[DV,T,C];exists 9,T.lU,sQ
 erw[h,v,d,rfl,hv,k];exists 3,%[|#[qv,#[qJ,qI,#[qy,Z,T.lQ,#v[pv 0]],ql]]]
 exists 0,v,d,1,hv,λu H' x y s' U hu=>?_;erw[hu,p,ws,rfl,hp,w1,r1,rfl,h1,w2,r2,rfl,h2,h3];cases(show r2= [] from h3)
 exists p,_,_,0,1,SqT.of hp,1,k _ H' s' (λe=>?_) (λe=>?_)
 ·erw[XM e,rs,O];erw[U.1 rs O,_,rfl];exact h2
 ·have hn:ya d=none:=by
   cases hh:ya d with
   |none=>rfl
   |some rs=>rw[hh] at e;cases e
  erw[U.2 hn,i,rfl];intro z;rw[z] at h2;cases(show V.non= .int i from h2)
def oF:#[C,5,a.f_is_rule,a.d_is_rule,["value"],De]:=by
 have O:=#[Pv,T,C];exists 9,T.lK,Ca,U
 erw[h,v,d,rfl,Z,k];exists 3,%[|#[qv,#[YZ,YA,#[qy,16,O,U.mono (),_,T.lU.m,T.lU.F.kp,T.lU.b,.nil,qH,#v[pv 0],_,_,_],Qe,qE _]]]
 exists 0,v,d,1,Z,λu H' s' h1 h2=>[1:?_];have e:decide (u=V.non)=(ya d).isSome:=by
  cases c:(ya d).isSome with
  |true=>rw[h1 c];rfl
  |false=>exact ub (h2 c)
 have:=k H' s';rwa[<-e] at this
end
def Dm {n:Nat}:∀{ds:om D},(∀d∈ds,(Qv n d).isSome=v_)->↑(ds.filterMap (Qv n))=↑ds/\ds=(ds.filterMap (Qv n)).map (λr=>D.str (Yk r))/\∀r∈ds.filterMap (Qv n),Jj n 300 r
 | [],_=>[1:1:λr h=>nomatch h]
 |d::ds,h=>by
  erw[XM (h d ue),r,O];obtain⟨h1,h2,h3⟩:=Dm (n:=n) (ds:=ds) λx U=>h x (uc _ U);have hd:d= .str (Yk r)/\Jj n 300 r:=by
   cases d with
   |str z=>
    obtain⟨Z,a2⟩:=AV (show WJ n z=u_ r from O)
    exact⟨by rw[a2],Z⟩
   |non=>cases O
   |bl b=>cases O
   |int i=>cases O
   |lst=>cases O
   |dct=>cases O
   |tup xs=>cases O
  rw[Ui O];exists by rw[uj,uj,h1],by rw[ur,<-h2,hd.1],λx U=>?_
  rcases Ac.mp U with rfl|U
  ·exact hd.2
  ·exact h3 x U
variable {rs:om Rw}
def Wv {d:D}(h:ya d=u_ rs):d=Jr rs/\yj rs:=by
 cases d with
 |tup ds=>
  rw[XZ] at h;split at h
  ·rename_i O
   simp![uu,uR] at O;erw[O,[[c1,c2],U],Z];cases h;erw[Dm (List.all_eq_true.mp U),h1,h2,h3];have e:D.tup ds=Jr (ds.filterMap (Qv ↑ds)):=by
    unfold Jr;rw[<-h2]
   refine⟨e,⟨(),(),?_,by rwa[<-e]⟩⟩
   rwa[h1]
  ·cases h
 |non=>cases h
 |bl b=>cases h
 |int i=>cases h
 |str z=>cases h
 |lst=>cases h
 |dct=>cases h
nonrec def GMT:om Str:= ["begin","look","wanted","take","full"]
structure GFl (fs:om (Str×V))(nv ov mv av rv ev:V):Prop where
 ZB:fs.lookup ("name":Str)=u_ nv
 wO:fs.lookup ("order":Str)=u_ ov
 YG:fs.lookup ("made_by":Str)=u_ mv
 yX:fs.lookup ("rule_asks":Str)=u_ av
 QC:fs.lookup ("rule_run":Str)=u_ rv
 f_end:fs.lookup ("end":Str)=u_ ev
 meth:∀m∈GMT,fs.lookup m=U_
 len:↑fs<=20
section
variable {fs:om (Str×V)}{nv ov mv av rv ev:V}
def GFl.set_made_by {u:V}(h:GFl fs nv ov mv av rv ev):GFl (iG "made_by" u fs) nv ov u av rv ev:=by
 refine⟨?_,?_,?_,?_,?_,?_,λm hm=>?_,by rw[jd h.YG];exact h.len⟩
 all_goals rw[qM]
 all_goals first|rw[A6 rfl]|(rw[A4 ()];first|exact h.ZB|exact h.wO|exact h.YG|exact h.yX|exact h.QC|exact h.f_end)|(rw[A4 (λe=>by subst e;revert hm;decide+kernel)];exact h.meth m hm)
def GFl.set_rule_asks {u:V}(h:GFl fs nv ov mv av rv ev):GFl (iG "rule_asks" u fs) nv ov mv u rv ev:=by
 refine⟨?_,?_,?_,?_,?_,?_,λm hm=>?_,by rw[jd h.yX];exact h.len⟩
 all_goals rw[qM]
 all_goals first|rw[A6 rfl]|(rw[A4 ()];first|exact h.ZB|exact h.wO|exact h.YG|exact h.yX|exact h.QC|exact h.f_end)|(rw[A4 (λe=>by subst e;revert hm;decide+kernel)];exact h.meth m hm)
def GFl.set_rule_run {u:V}(h:GFl fs nv ov mv av rv ev):GFl (iG "rule_run" u fs) nv ov mv av u ev:=by
 refine⟨?_,?_,?_,?_,?_,?_,λm hm=>?_,by rw[jd h.QC];exact h.len⟩
 all_goals rw[qM]
 all_goals first|rw[A6 rfl]|(rw[A4 ()];first|exact h.ZB|exact h.wO|exact h.YG|exact h.yX|exact h.QC|exact h.f_end)|(rw[A4 (λe=>by subst e;revert hm;decide+kernel)];exact h.meth m hm)
def GFl.set_end {u:V}(h:GFl fs nv ov mv av rv ev):GFl (iG "end" u fs) nv ov mv av rv u:=by
 refine⟨?_,?_,?_,?_,?_,?_,λm hm=>?_,by rw[jd h.f_end];exact h.len⟩
 all_goals rw[qM]
 all_goals first|rw[A6 rfl]|(rw[A4 ()];first|exact h.ZB|exact h.wO|exact h.YG|exact h.yX|exact h.QC|exact h.f_end)|(rw[A4 (λe=>by subst e;revert hm;decide+kernel)];exact h.meth m hm)
end
structure Gc where
 (x o:o6)
 n:Str
structure Gs where
 mb:D
 ra:om D
 run:oq (Mc×Rn)
 en:D
nonrec def WY (CM:o6)(H:Hp)(x:o6)(rv:V):oq (Mc×Rn)->Prop
 |none=>rv= .non
 |some (m,r)=>rv= .ref m.x/\m.x≠x/\yR CM H m r
nonrec def lZ (C CM:o6)(H:Hp)(g:Gc)(s:Gs):Prop:=
 ∃(dx:o6) (fs:om (Str×V)) (mv av rv ev:V),H g.x=u_ (.ins C dx fs)/\GFl fs (.str g.n) (.ref g.o) mv av rv ev/\Is H s.mb mv/\Is H (.tup s.ra) av/\WY CM H g.x rv s.run/\Is H s.en ev
variable {CM:o6}
def WY.same {x:o6}{o:oq (Mc×Rn)}(h:WY CM H x rv o)(s:ie H H'):WY CM H' x rv o:=by
 cases o with
 |none=>exact h
 |some p=>exact[h.1:h.2.1:h.2.2.same s]
def lZ.same {g:Gc}{s:Gs}(h:lZ C CM H g s)(sm:ie H H'):lZ C CM H' g s:=by
 erw[h,dx,fs,mv,av,rv,ev,e,f,i,j,k,l];exact⟨dx,fs,mv,av,rv,ev,sm _ _ e,f,i.mono sm.tk,j.mono sm.tk,k.same sm,l.mono sm.tk⟩
def yR.put {m:Mc}{r:Rn}{x:o6}{fs:om (Str×V)}(h:yR CM H m r)(e:H x=u_ (.ins C dx fs))(n:m.x≠x):yR CM (upd H x (.ins C dx fs')) m r:=by
 erw[h,U,Z,rv,ru,tv,gv,e1,f,i,j,b,O,gl,t];have tk:Tk H (upd H x (.ins C dx fs')):=Tk.updI e;have n1:m.db≠x:=YC.ne e b;have n2:m.dg≠x:=λz=>by rw[z,e] at O;cases O
 exact⟨U,Z,rv,ru,tv,gv,by rwa[qm n],f,i.mono tk,j.mono tk,b.move tk (qm n1),by rwa[qm n2],gl.mono tk,t.mono tk⟩
def WY.put {x:o6}{fs:om (Str×V)}{o:oq (Mc×Rn)}(h:WY CM H x rv o)(e:H x=u_ (.ins C dx fs)):WY CM (upd H x (.ins C dx fs')) x rv o:=by
 cases o with
 |none=>exact h
 |some p=>exact[h.1:h.2.1:h.2.2.put e h.2.1]
structure Gv (g:Gc)(H H':Hp):Prop where
 kept:∀b o,H b=u_ o->b≠g.x->H' b=u_ o
 tk:Tk H H'
def kY {g:Gc}{fs:om (Str×V)}{mv av ev:V}{s:Gs}(e:H g.x=u_ (.ins C dx fs))(f:GFl fs' (.str g.n) (.ref g.o) mv av rv ev)(i:Is H s.mb mv)(j:Is H (.tup s.ra) av)(k:WY CM H g.x rv s.run)(l:Is H s.en ev):
  lZ C CM (upd H g.x (.ins C dx fs')) g s/\Gv g H (upd H g.x (.ins C dx fs')):=by
 have tk:Tk H (upd H g.x (.ins C dx fs')):=Tk.updI e;exact⟨⟨dx,fs',mv,av,rv,ev,qk,f,i.mono tk,j.mono tk,k.put e,l.mono tk⟩,⟨λb o h n=>by rwa[qm n],tk⟩⟩
nonrec def oK (s:Gs)(r:Rn):Gs:=if QP r.th=v_ then s else{s with en:=r.th}
inductive Oa (C CM:Addr):Sp
 |mk (g:Gc)(s:Gs)(m:Mc)(r:Rn)(_:vs= [.ref g.x])(_:lZ C CM H g s)(_:s.run=u_ (m,r))(_:Th r.th)(_:∀H',Gv g H H'->lZ C CM H' g (oK s r)->Q .non H')
section
variable {P:og}{w:oh}{K:o0}{mg:Str->oq o7}{base:o9}{a:Ad}{g:Ga}
def D0:#[T,2,a.ZG,a.Zm,["self"],(Oa a.qN a.qr)]:=by
 have Qy:=#[wr,T];have QX:=#[DY,T];exists 9,T.lV,KM
 erw[h,g,st,m,r,rfl,hG,O,aa,k];exists 3,%[|#[qK,#[QD,#[Qo,#[QL,#[qT,5,pv 0,rfl],T.qw,T.iw,Qy,hr.mono ()]]],%[|#[Qi,#[QL,#[qT,5,pv 0,rfl],T.qw,T.iE,QX,hr.mono ()]]],qx]]
 erw[id hG,dx,fs,mv,av,rv,ev,e,f,i,j,hR,l];rw[O] at hR;erw[hR,rfl,hn,Z];erw[id Z,dm,fm,ac,ru,tv,gv,em,U,i1,i2,i3,i4,i5,i6]
 exists 0,g.x,_,dx,fs,0,e,T.qX,T.Qa,f.QC,m.x,dm,fm,1,em,U.meth _ (),m,r,1,Z,aa,0
 cases c:QP r.th with
 |true=>
  refine iW (k H [λ_ _ h _=>h:Tk.refl H] ?_);unfold oK;rwa[A6 c]
 |false=>
  refine lj ?_
  exists 0,g.x,_,dx,fs,0,e,T.qX,T.Qa,f.QC,m.x,dm,fm,1,em,U.meth _ (),m,r,1,Z,λv hv=>?_
  exists 5
  refine⟨0,g.x,_,dx,fs,1,e,T.qX,T.Q8,by have:=f.len;omega,?_⟩
  have hS:oK st r={st with en:=r.th}:=by
   unfold oK;rw[c];exact A4 ua
  obtain⟨m1,m2⟩:=kY (CM:=a.qr) (s:={st with en:=r.th}) e (f.set_end (u:=v)) i j (by rw[O];exact[1:hn:Z]) hv
  refine k _ m2 ?_;rw[hS];exact m1
inductive C7 (CM:Addr):Sp
 |mk (o:Addr)(v:V)(rs:List Rw)(own:Str)(_:vs= [.ref o,v,.str own])(_:Is H (Jr rs) v)(_:yj rs)(_:nm own=v_)(_:∀(mc:Mc)(H':Hp),ie H H'->H mc.x=U_->H mc.db=U_->H mc.dg=U_->mc.rs=rs->mc.own=own->yR CM H' mc (mJ rs own [] 300 B0 1 0)->Q (.ref mc.x) H')
def DQ:#[C,8,a.YL,a.YX,["self","rule","own"],(C7 a.qr)]:=by
 have jq:=#[Bk,T,C];exists 9,T.iU,xu
 erw[h,o,v,rs,own,rfl,hv,hR,hn,k];have hl:=ZX hn;have hI:∀H:Hp,Is H (.str own) (.str own):=λH=>yU ()
 exists 3,%[|#[qv,#[Za,T.M_Machine,jq,hr.mono (),T.m_Machine,T.ld,AaI,#v[pv 1,pv 2]]]]
 exists 0,0,λx dx Z aa nx=>?_;have U:ie H (upd (upd H dx (.own x)) x (.ins a.qr dx [])):=λb o h=>by rwa[qm (qo h Z),qm (qo h aa)]
 exists x,dx,v,.str own,Jr rs,.str own,1,qk,hv.mono U.tk,hI _,λz=>?_,λ_ z=>?_,λO af e1 ac e2 ag ah H' db dg kept ad ae hM=>[1:?_]
 ·rw[hR.read] at z;cases z
 ·have:mK (.str own)=true:=hn;rw[this] at z;cases z
 ·have e3:O=rs:=by
   have h1:=hR.read;rw[e1,ac.read] at h1;exact uF h1
  cases e2;subst e3;exact k ⟨x,db,dg,O,own⟩ H' (λb o h=>kept b o (U b o h) (qo h Z)) Z (U.free ad) (U.free ae) rfl rfl hM
nonrec def R0 (rs:om Rw)(n:Str):Rn:=mJ rs n [] 300 B0 1 0
structure Mj (H:Hp)(g:Gc)(d:D)(s s':Gs):Prop where
 mb:s'.mb=s.mb
 ra:s'.ra=s.ra
 lack:d= .non->s'.run=U_/\s'.en=flt "lack"
 rule:d≠ .non->ya d=U_->s'.run=U_/\s'.en=flt "rule"
 go:∀rs,ya d=u_ rs->∃mc:Mc,H mc.x=U_/\H mc.db=U_/\H mc.dg=U_/\mc.rs=rs/\mc.own=g.n/\s'.run=u_ (mc,R0 rs g.n)/\s'.en=if QP (R0 rs g.n).th=v_ then s.en else(R0 rs g.n).th
inductive Ld (C CM CO:Addr):Sp
 |mk (g:Gc)(s:Gs)(v:V)(d:D)(_:vs= [.ref g.x,v])(_:lZ C CM H g s)(_:s.run=U_)(_:nm g.n=v_)(_:Is H d v)(_:(∃dx fs,H g.o=u_ (.ins CO dx fs)/\fs.lookup ("runner":Str)=U_))(_:∀H' s',Gv g H H'->lZ C CM H' g s'->Mj H g d s s'->Q .non H')
def AbK {n:Str}(h:yj rs):Nq rs (R0 rs n):=sT h 300 B0 1 0 [] rfl SU () (by have:=h.n0;omega) ⟨1,by simp[dpL],ug _⟩
def Adh {n:Str}(h:yj rs):Th (R0 rs n).th:= .inr (AbK h).two
def Bm:#[C,9,a.zo,a.XY,["self","rule"],(Ld a.qN a.qr a.qu)]:=by
 have wD:=#[oF,T,C];have Xr:=#[DQ,T,C];have JJ:=#[D0,T];exists 9,T.lH,WR
 erw[h,g,st,v,d,rfl,hG,O,hn,hv,[ad,ae,ho,af],k];have hs:=uw;erw[id hG,dx,fs,mv,av,rv,ev,e,f,i,j,hR,l];rw[O] at hR;exists 3,%[|#[qK,#[qt,YA,pv 1,Qe],%[|#[Qi,#[qB,#v[qp,qp]]]],%[|#[qK,#[QD,#[Qo,#[qy,wD,T.lK,#v[pv 1]]]],%[|#[Qi,#[qB,#v[qp,qp]]]],%[#[Qi,#[Qw,#[qT,5,pv 0,rfl],T.qF,T.iU,Xr,#v[pv 1,#[qT,5,pv 0,rfl]]]]|#[Qd,#[QL,pv 0,T.qX,T.lV,JJ,hr.mono ()]]]]]]]
 exists 0,1,0;have fl:∀(z:Str) (H:Hp) (l:o6),↑z<=100->H l=U_->Is (upd H l (.tup [.str "fault",.str z])) (flt z) (.ref l):=λz H l hz hl=>Is.new (ds:= [.str "fault",.str z]) ⟨_,0,yU (),_,0,yU (),1⟩ hl
 have aa:↑fs<1000:=by have:=f.len;omega
 have put:∀(z:Str) (t:o6) (H':Hp),↑z<=100->ie H H'->H' t=U_->((d= .non->z="lack")/\(d≠ .non->z="rule"/\ya d=U_))->Q .non (upd (upd H' t (.tup [.str "fault",.str z])) g.x (.ins a.qN dx (iG "end" (.ref t) fs))):=λz t H' hz s' Z hd=>by
  have s1:=s'.trans (qi Z (.tup [.str "fault",.str z]));obtain⟨m1,m2⟩:=kY (CM:=a.qr) (g:=g) (s:={st with en:=flt z}) (s1 _ _ e) (f.set_end (u:= .ref t)) (i.mono s1.tk) (j.mono s1.tk) (by show WY _ _ _ _ st.run;rwa[O]) (fl z H' t hz Z)
  refine k _ _ [λb o h n=>m2.kept b o (s1 b o h) n:s1.tk.trans m2.tk] m1 ⟨1,1,λh=>⟨O,by rw[hd.1 h]⟩,λh _=>⟨O,by rw[(hd.2 h).1]⟩,λrs h=>?_⟩
  by_cases c:d= .non
  ·rw[c] at h;cases h
  ·rw[(hd.2 c).2] at h;cases h
 by_cases c:d= .non
 ·subst c;cases(show v= .non from hv)
  refine lh (A9 rfl) [(sml rfl):λt Z=>?_]
  exists 0,g.x,_,dx,fs,1,(qi Z _) _ _ e,T.qX,T.Q8,aa;exact put "lack" t H () (ie.refl _) Z [λ_=>rfl:λh=>Aa rfl h]
 ·refine iN (ub (zK hv c)) ?_
  exists 0,v,d,1,hv,λH1 s1=>[0:?_];cases hd:ya d with
  |none=>
   refine lj [(sml rfl):λt Z=>?_]
   exists 0,g.x,_,dx,fs,1,(qi Z _) _ _ (s1 _ _ e),T.qX,T.Q8,aa;exact put "rule" t H1 () s1 Z [λh=>Aa h c:λ_=>[1:hd]]
  |some rs=>
   refine iW ?_;erw[Wv hd,ed,ac];have e1:=s1 _ _ e
   exists 5
   refine⟨0,g.x,_,dx,fs,0,e1,T.qX,T.X5,f.wO,g.o,ad,ae,1,s1 _ _ ho,af,0,0,g.x,_,dx,fs,0,e1,T.qX,T.Yj,f.ZB,g.o,v,rs,g.n,1,by rw[<-ed];exact hv.mono s1.tk,ac,hn,λmc H2 s2 nx nb ng ag ah hM=>?_⟩
   have e2:=s2 _ _ e1;have U:=s1.trans s2
   exists 0,g.x,_,dx,fs,1,e2,T.qX,T.Qa,aa;have ak:mc.x≠g.x:=(qo e1 nx).symm;erw[kY (C:=a.qN) (CM:=a.qr) (g:=g) (s:={st with run:=u_ (mc,R0 rs g.n)}) e2 (f.set_rule_run (u:= .ref mc.x)) (i.mono U.tk) (j.mono U.tk) [1:ak:hM] (l.mono U.tk),m1,m2]
   erw[id m1,al,am,_,_,_,_,e3,f3,_]
   exists 0,g.x,al,am,1,e3,f3.meth _ (),g,_,mc,R0 rs g.n,1,m1,1,Adh ac,λH3 v3 G3=>k H3 _ [λb o h n=>v3.kept b o (m2.kept b o (U b o h) n) n:(U.tk.trans m2.tk).trans v3.tk] G3 ?_
   unfold oK
   exists 5
   refine⟨by split<;>rfl,by split<;>rfl,λh=>Aa h c,(λ_ h=>by rw[hd] at h;cases h),λao h=>?_⟩
   rw[hd] at h;cases h
   exists 5
   refine⟨mc,s1.free nx,s1.free nb,s1.free ng,ag,ah,by split<;>rfl,?_⟩
   split<;>rfl
inductive ze (C CM:Addr):Sp
 |mk (g:Gc)(s:Gs)(_:vs= [.ref g.x])(_:lZ C CM H g s)(_:((s.run=U_/\∃z,s.mb= .str z/\∀v H',ie H H'->Is H' (.tup [.str "rule",.str z]) v->Q v H')∨∃mc r d,s.run=u_ (mc,r)/\r.th= .tup [.str "asks",d]/\∀v,Is H d v->Q v H))
nonrec def Aas:oq (Mc×Rn)->om D
 |none=> []
 |some (_,r)=>r.gs
nonrec def L5 (s:Gs):D:= .tup [.tup (s.ra++Aas s.run),s.en]
inductive Oi (C CM:Addr):Sp
 |mk (g:Gc)(s:Gs)(_:vs= [.ref g.x])(_:lZ C CM H g s)(_:↑s.ra+↑(Aas s.run)<=1000)(_:∀v H',ie H H'->Is H' (L5 s) v->Q v H')
variable {v:V}{Q:VK}
def AB {K:o0}{xs ys:om D}{u:V}(O:Is H (.tup xs) v)(U:Is H (.tup ys) u)(hl:↑xs+↑ys<=1000)(k:∀p H',ie H H'->Is H' (.tup (xs++ys)) p->Q p H'):Lk K v u H Q:=by
 erw[id O,a,vs,rfl,ha,Z];erw[id U,b,us,rfl,hb,ib];have la:=↑Z;have lb:=↑ib;have hs:=uw;exists a,b,vs,us,1,1,SqT.of ha,SqT.of hb,(),λe=>?_,λ_ e=>?_,λ_ _ p hp=>?_
 ·have:xs= []:=List.length_eq_zero_iff.mp (by rw[e] at la;simpa using la.symm)
  rw[this] at k;exact k _ H (ie.refl _) U
 ·have:ys= []:=List.length_eq_zero_iff.mp (by rw[e] at lb;simpa using lb.symm)
  rw[this,vg] at k;exact k _ H (ie.refl _) O
 ·have n:=qi hp (.tup (vs++us));exact k _ _ n ⟨p,0,qk,(Z.append ib).mono n.tk⟩
def DN:#[T,2,a.xG,a.xy,["self"],(ze a.qN a.qr)]:=by
 have QX:=#[DY,T];exists 9,T.mh,WK
 erw[h,g,st,rfl,hG,h];have hs:=uw;erw[id hG,dx,fs,mv,av,rv,ev,e,f,i,j,U,l];exists 3,%[#[qK,#[qt,YA,#[qT,5,pv 0,rfl],Qe],%[|#[qv,#[qB,#v[qp,#[qT,5,pv 0,rfl]]]]],qx]|#[qv,#[qJ,JI,#[QL,#[qT,5,pv 0,rfl],T.qw,T.iE,QX,hr.mono ()],ql]]]
 exists 0,g.x,_,dx,fs,0,e,T.qX,T.Qa,f.QC,1,0;rcases h with⟨O,z,hz,k⟩|⟨mc,r,d,O,Z,k⟩
 ·rw[O] at U;cases(show rv= .non from U)
  rw[hz] at i;obtain⟨rfl,hl⟩:=(show mv= .str z/\↑z<=Vl from i)
  refine lh (A9 rfl) ⟨0,g.x,_,dx,fs,0,e,T.qX,T.yE,f.YG,(sml rfl),λt ht=>?_⟩;exact k _ _ (qi ht _) (Is.new ⟨_,0,yU (),_,0,[1:hl],1⟩ ht)
 ·rw[O] at U;erw[U,rfl,hn,hM];erw[id hM,dm,fm,ac,ru,tv,gv,em,aa,i1,i2,i3,i4,i5,i6];refine iN (ub (λz=>by cases z)) ?_
  exists 0,g.x,_,dx,fs,0,e,T.qX,T.Qa,f.QC,mc.x,dm,fm,1,em,aa.meth _ (),mc,r,1,hM,λv hv=>?_
  rw[Z] at hv;exact .inr (.inl (xS (i:=1) (d:=d) hv (Qn (j:=1) rfl) λq hq=>k q hq))
def Pp:#[T,2,a.Zu,a.Zo,["self"],(Oi a.qN a.qr)]:=by
 have yD:=#[D5,T];exists 9,T.mE,X0
 erw[h,g,st,rfl,hG,hl,k];have hs:=uw;erw[id hG,dx,fs,mv,av,rv,ev,e,f,i,j,Z,l];exists 3,%[#[qD,(1),X0.nd,#[ym,#[qt,YA,#[qT,5,pv 0,rfl],Qe],#[qB,qh],#[QL,#[qT,5,pv 0,rfl],T.qw,T.iJ,yD,hr.mono ()]]]|#[qv,#[qB,#v[#[qS,Xg,#[qT,5,pv 0,rfl],pv 1],#[qT,5,pv 0,rfl]]]]]
 have fin:∀(v:V) (H1:Hp),ie H H1->Is H1 (.tup (Aas st.run)) v->Acl K (S5 0) "rule_asks" [u_ (.ref g.x),u_ v] H1 λx H2=>S5 1 [u_ (.ref g.x),u_ v] H2 λy H3=>Lk K x y H3 λz H4=>Acl K (S5 0) "end" [u_ (.ref g.x),u_ v] H4 λu H5=> [z,u].length<=Vl/\∀p,H5 p=U_->Q (.ref p) (upd H5 p (.tup [z,u])):=λv H1 s1 hv=>by
  exists 0,g.x,_,dx,fs,0,s1 _ _ e,T.qX,T.y8,f.yX,0;refine AB (j.mono s1.tk) hv hl λz H4 s4 i4=>?_;have U:=s1.trans s4
  exists 0,g.x,_,dx,fs,0,U _ _ e,T.qX,T.Q8,f.f_end,(sml rfl),λp hp=>?_;have n:=qi hp (.tup [z,ev]);exact k _ _ (U.trans n) (Is.new ⟨_,0,i4,_,0,l.mono U.tk,1⟩ hp)
 exists 0,g.x,_,dx,fs,0,e,T.qX,T.Qa,f.QC,1,0;cases O:st.run with
 |none=>
  rw[O] at Z fin;cases(show rv= .non from Z)
  refine lh (A9 rfl) [(sml rfl):λt ht=>?_];exact fin _ _ (qi ht _) (Is.new (ds:= []) rfl ht)
 |some p=>
  erw[p,mc,r];rw[O] at Z fin;erw[Z,rfl,hn,hM];erw[id hM,dm,fm,ac,ru,tv,gv,em,aa,i1,i2,i3,i4,i5,i6];refine iN (ub (λz=>by cases z)) ?_
  exists 0,g.x,_,dx,fs,0,e,T.qX,T.Qa,f.QC,mc.x,dm,fm,1,em,aa.meth _ (),mc,r,1,hM,λv H1 s1 hv=>?_
  exact fin v H1 s1 hv
structure Gw (g:Gc)(o:oq (Mc×Rn))(H H':Hp):Prop where
 kept:∀b ob,H b=u_ ob->b≠g.x->(∀mc r,o=u_ (mc,r)->b≠mc.x/\b≠mc.db/\b≠mc.dg)->H' b=u_ ob
 tk:Tk H H'
inductive XX (C CM CO:Addr):Sp
 |mk (g:Gc)(s:Gs)(v:V)(d:D)(_:vs= [.ref g.x,v])(_:lZ C CM H g s)(_:nm g.n=v_)(_:Is H d v)(_:g.o≠g.x)(_:(∃dx fs,H g.o=u_ (.ins CO dx fs)/\fs.lookup ("runner":Str)=U_))(_:((s.run=U_/\∃z,s.mb= .str z/\∀H' s',Gw g s.run H H'->lZ C CM H' g s'->Mj H g d {s with ra:= [.tup [.tup [.str "rule",.str z],d]]} s'->Q .non H')∨∃mc r u q,s.run=u_ (mc,r)/\mc.own=g.n/\yj mc.rs/\Nq mc.rs r/\r.th= .tup [.str "asks",.tup [.str u,q]]/\Cw u d=v_/\∀H',Gw g s.run H H'->lZ C CM H' g (oK {s with run:=u_ (mc,mS mc.rs mc.own r d)} (mS mc.rs mc.own r d))->Q .non H'))
def AcZ {g:Gc}{s:Gs}{mc:Mc}{r O:Rn}(h:lZ C CM H g s)(Z:s.run=u_ (mc,r))(v:Mv mc H H')(hM:yR CM H' mc O):lZ C CM H' g {s with run:=u_ (mc,O)}:=by
 erw[h,dx,fs,mv,av,rv,ev,e,f,i,j,k,l];rw[Z] at k;erw[k,rfl,hn,hm];erw[id hm,dm,fm,aa,ru,tv,gv,em,ac,i1,i2,i3,U,i5,i6];have n1:g.x≠mc.db:=(YC.ne e i3).symm;have n2:g.x≠mc.dg:=λz=>by rw[<-z,e] at U;cases U
 exact⟨dx,fs,mv,av,_,ev,v.kept _ _ e hn.symm n1 n2,f,i.mono v.tk,j.mono v.tk,[1:hn:hM],l.mono v.tk⟩
def Lz:#[C,10,a.Zv,a.Zt,["self","answer"],(XX a.qN a.qr a.qu)]:=by
 have jN:=#[Bm,T,C];have JJ:=#[D0,T];have yn:=#[MN,T,C];exists 9,T.iZ,Ko
 erw[h,U,st,v,d,rfl,hG,hn,hv,am,[ao,ap,ho,aq],h];have hs:=uw;erw[id hG,dx,fs,mv,av,rv,ev,e,f,i,j,hR,l];exists 3,%[|#[qK,#[qt,YA,#[qT,5,pv 0,rfl],Qe],%[#[Qi,#[qB,#v[#[qB,#v[#[qB,#v[qp,#[qT,5,pv 0,rfl]]],pv 1]]]]]|#[Qd,#[Qw,pv 0,T.qX,T.lH,jN,#v[pv 1]]]],%[#[Qd,#[Qw,#[qT,5,pv 0,rfl],T.qw,T.io,yn,#v[pv 1]]]|#[Qd,#[QL,pv 0,T.qX,T.lV,JJ,hr.mono ()]]]]]
 exists 0,U.x,_,dx,fs,0,e,T.qX,T.Qa,f.QC,1,0;rcases h with⟨O,z,hz,k⟩|⟨mc,r,u,q,O,au,ad,ae,af,Z,k⟩
 ·rw[O] at hR;cases(show rv= .non from hR)
  refine lh (A9 rfl) ?_;rw[hz] at i;obtain⟨rfl,hl⟩:=(show mv= .str z/\↑z<=Vl from i)
  have aw:↑fs<1000:=by have:=f.len;omega
  exists 0,U.x,_,dx,fs,0,e,T.qX,T.yE,f.YG,(sml rfl),λt1 ag=>?_;have m1:=qi ag (.tup [V.str "rule",V.str z]);have k1:Is (upd H t1 (.tup [V.str "rule",V.str z])) (.tup [.str "rule",.str z]) (.ref t1):=Is.new ⟨_,0,yU (),_,0,[1:hl],1⟩ ag
  exists 0,(sml rfl),λt2 ah=>?_;have m2:=qi ah (.tup [V.ref t1,v]);have k2:=Is.new (ds:= [.tup [.str "rule",.str z],d]) ⟨_,0,k1,_,0,hv.mono m1.tk,1⟩ ah
  exists (sml rfl),λt3 ak=>?_;have m3:=qi ak (.tup [V.ref t2]);have k3:=Is.new (ds:= [.tup [.tup [.str "rule",.str z],d]]) ⟨_,0,k2,1⟩ ak;have s3:=(m1.trans m2).trans m3
  exists 0,U.x,_,dx,fs,1,s3 _ _ e,T.qX,T.y8,aw;have iz:Is H (.str z) (.str z):=[1:hl];obtain⟨p1,p2⟩:=kY (C:=a.qN) (CM:=a.qr) (g:=U) (s:={st with ra:= [.tup [.tup [.str "rule",.str z],d]]}) (s3 _ _ e) (f.set_rule_asks (u:= .ref t3)) (by show Is _ st.mb _;rw[hz];exact iz.mono s3.tk) k3 (by show WY _ _ _ _ st.run;rw[O];rfl) (l.mono s3.tk)
  erw[id p1,aa,ac,_,_,_,_,e3,f3,_];have al:=s3.tk.trans p2.tk
  exists 0,U.x,aa,ac,1,e3,f3.meth _ (),0,U,_,v,d,1,p1,O,hn,hv.mono al,⟨ao,ap,p2.kept _ _ (s3 _ _ ho) am,aq⟩,λH4 s4 v4 G4 b4=>k H4 s4 [λb ob h n _=>v4.kept b ob (p2.kept b ob (s3 b ob h) n) n:al.trans v4.tk] G4 ⟨b4.mb,b4.ra,b4.lack,b4.rule,λrs h=>?_⟩
  erw[b4.go rs h,mc,c1,c2,c3,c4];have fr:∀b,upd (upd (upd (upd H t1 (.tup [V.str "rule",V.str z])) t2 (.tup [V.ref t1,v])) t3 (.tup [V.ref t2])) U.x (.ins a.qN dx (iG "rule_asks" (.ref t3) fs)) b=U_->H b=none:=λb hb=>by
   cases hc:H b with
   |none=>rfl
   |some ob=>
    by_cases c:b=U.x
    ·rw[c,qk] at hb;cases hb
    ·rw[p2.kept b ob (s3 b ob hc) c] at hb;cases hb
  exact⟨mc,fr _ c1,fr _ c2,fr _ c3,c4⟩
 ·rw[O] at hR;erw[hR,rfl,aA,hM];erw[id hM,dm,fm,aB,ru,tv,gv,em,ax,i1,i2,i3,i4,i5,i6];refine iN (ub (λz=>by cases z)) ?_
  have ay:↑mc.own<=100:=by rw[au];have:=ZX hn;omega
  exists 0,U.x,_,dx,fs,0,e,T.qX,T.Qa,f.QC,mc.x,dm,fm,1,em,ax.meth _ (),0,mc,r,v,u,q,d,1,hM,ae,af,hv,ad,ay,Z,λH1 v1 M1=>?_
  ·have G1:=AcZ hG O v1 M1;erw[id G1,aa,ac,_,_,_,_,e3,f3,_];have hok:=Iy (own:=mc.own) ad ae (by rw[af];show decide (("asks":Str)="asks")=v_;exact A9 rfl) (Iz Z)
   exists 5
   refine⟨0,U.x,aa,ac,1,e3,f3.meth _ (),U,_,mc,0,G1,1,.inr hok.two,λH2 v2 G2=>k H2 [λb ob h n1 n2=>v2.kept b ob (v1.kept b ob h (n2 mc r O).1 (n2 mc r O).2.1 (n2 mc r O).2.2) n1:v1.tk.trans v2.tk] G2⟩
nonrec def gfs (n:Str)(o t:o6):om (Str×V):= [("name",.str n),("order",.ref o),("made_by",.non),("rule_asks",.ref t),("rule_run",.non),("end",.non)]
def EM (n:Str)(o t:o6):GFl (gfs n o t) (.str n) (.ref o) .non (.ref t) .non .non:=by
 exists 1,1,1,1,1,1,?_,(by show 6<=20;decide)
 intro m hm;simp![GMT,uC,uA,uP] at hm;rcases hm with rfl|rfl|rfl|rfl|rfl<;>rfl
nonrec def s0G:Gs:=⟨.non,[],U_,.non⟩
inductive IY (C CM CO:Addr):Sp
 |mk (x dx o:Addr)(n k:Str)(sv:V)(e:D)(_:vs= [.ref x,.str n,sv,.ref o])(_:H x=u_ (.ins C dx []))(_:Is H (.tup [.str k,e]) sv)(_:nm n=v_)(_:o≠x)(_:(∃dx fs,H o=u_ (.ins CO dx fs)/\fs.lookup ("runner":Str)=U_))(_:∀H' s',(∀b ob,H b=u_ ob->b≠x->H' b=u_ ob)->Tk H H'->lZ C CM H' ⟨x,o,n⟩ s'->(k="made"->s'={s0G with mb:=e})->(k≠"made"->Mj H ⟨x,o,n⟩ e s0G s')->Q .non H')
def SX {x:o6}{fs:om (Str×V)}{P:Hp->Prop}(e:H x=u_ (.ins C dx fs))(h:∀H1,H1 x=u_ (.ins C dx fs')->(∀b ob,H b=u_ ob->b≠x->H1 b=u_ ob)->Tk H H1->P H1):P (upd H x (.ins C dx fs')):=h _ qk (λb ob h n=>by rwa[qm n]) (Tk.updI e)
def LA:#[C,10,a.JY,a.ZD,["self","name","source","order"],(IY a.qN a.qr a.qu)]:=by
 have jN:=#[Bm,T,C];exists 9,T.mD,KR
 erw[h,x,dx,o,n,k,sv,d,rfl,hx,aa,hn,nox,[ac,ad,ho,ae],q];have hs:=uw;exists 3,%[#[Qi,pv 1],#[Qi,pv 3],#[Qi,Qe],#[Qi,#[qB,qh]],#[Qi,Qe],#[Qi,Qe]|#[qK,#[qt,Qk,#[qJ,qI,pv 2,ql],qp],%[|#[Qi,#[qJ,qI,pv 2,ql]]],%[|#[Qd,#[Qw,pv 0,T.qX,T.lH,jN,#v[#[qJ,qI,pv 2,ql]]]]]]]
 exists 0,0,x,_,dx,0,hx,T.qX,T.Yj,()
 refine SX (P:=mX _ _ _ _) hx λH1 x1 k1 t1=>?_
 exists 5
 refine⟨0,0,x,_,dx,0,x1,T.qX,T.X5,by show 1<1000;decide,?_⟩
 refine SX (P:=mX _ _ _ _) x1 λH2 x2 k2 t2=>?_
 exists 5
 refine⟨0,x,_,dx,0,x2,T.qX,T.yE,by show 2<1000;decide,?_⟩
 refine SX (P:=mX _ _ _ _) x2 λH3 x3 k3 t3=>?_
 exists sml rfl,λt ht=>?_;have nxt:=(qo x3 ht).symm;have s4:=qi ht (.tup ([]:om V))
 exists 5
 refine⟨0,x,_,dx,0,s4 _ _ x3,T.qX,T.y8,by show 3<1000;decide,?_⟩
 refine SX (P:=mX _ _ _ _) (s4 _ _ x3) λH5 x5 k5 t5=>?_
 exists 5
 refine⟨0,x,_,dx,0,x5,T.qX,T.Qa,by show 4<1000;decide,?_⟩
 refine SX (P:=mX _ _ _ _) x5 λH6 x6 k6 t6=>?_
 exists 5
 refine⟨0,x,_,dx,0,x6,T.qX,T.Q8,by show 5<1000;decide,?_⟩
 refine SX (P:=λH=>_) x6 λZ O k7 t7=>?_;have kp:∀b ob,H b=u_ ob->b≠x->Z b=u_ ob:=λb ob h nb=>k7 b ob (k6 b ob (k5 b ob (s4 b ob (k3 b ob (k2 b ob (k1 b ob h nb) nb) nb)) nb) nb) nb;have U:=(((((t1.trans t2).trans t3).trans s4.tk).trans t5).trans t6).trans t7;have O:Z x=u_ (.ins a.qN dx (gfs n o t)):=O;have eT:Z t=u_ (.tup ([]:om V)):=k7 _ _ (k6 _ _ (k5 _ _ qk nxt) nxt) nxt;have i0:Is Z (.tup []) (.ref t):=⟨t,[],1,eT,1⟩;have G0:lZ a.qN a.qr Z ⟨x,o,n⟩ s0G:=⟨dx,_,_,_,_,_,O,EM n o t,1,i0,1,1⟩;have af:=aa.mono U;erw[af,p,ws,rfl,hp,w1,r1,rfl,[rfl,ag],w2,r2,rfl,h2,h3];cases(show r2= [] from h3)
 exists 0,p,_,_,0,1,SqT.of hp,1,1,0;by_cases ck:k="made"
 ·refine lh (A9 (by rw[ck])) ⟨0,p,_,_,0,1,SqT.of hp,1,0,x,_,dx,0,O,T.qX,T.yE,(by show 6<1000;decide),?_⟩
  erw[kY (C:=a.qN) (CM:=a.qr) (g:=[x:o:n]) (s:={s0G with mb:=d}) O ((EM n o t).set_made_by (u:=w2)) h2 i0 rfl rfl,p1,p2]
  exact q _ _ (λb ob h nb=>p2.kept b ob (kp b ob h nb) nb) (U.trans p2.tk) p1 (λ_=>rfl) λz=>Aa ck z
 ·refine iN (ub (λz=>ck (V.str.inj z))) ?_
  exists 0,x,dx,0,O,(EM n o t).meth _ (),0,p,_,_,0,1,SqT.of hp,1,[x:o:n],s0G,w2,d,1,G0,1,hn,h2,⟨ac,ad,kp _ _ ho nox,ae⟩,λH8 s8 v8 G8 b8=>q H8 s8 (λb ob h nb=>v8.kept b ob (kp b ob h nb) nb) (U.trans v8.tk) G8 (λz=>Aa z ck) λ_=>⟨b8.mb,b8.ra,b8.lack,b8.rule,λrs h=>?_⟩
  erw[b8.go rs h,mc,c1,c2,c3,c4];have fr:∀b,Z b=U_->H b=none:=λb hb=>by
   cases hc:H b with
   |none=>rfl
   |some ob=>
    by_cases c:b=x
    ·rw[c,O] at hb;cases hb
    ·rw[kp b ob hc c] at hb;cases hb
  exact⟨mc,fr _ c1,fr _ c2,fr _ c3,c4⟩
nonrec def XW:D->D
 | .non=> .tup [.str "lack"]
 | .tup [.str k,e]=>if k="leaf" then .tup [.str "value",e] else .non
 |_=> .non
nonrec def Qp:D->D
 | .tup [.str k,e]=>if k="said" then .tup [.str "value",e] else .tup [.str k,e]
 |d=>d
inductive NX:Sp
 |mk (v:V)(d:D)(_:vs= [v])(_:Is H d v)(_:(d= .non∨∃k e,d= .tup [.str k,e]))(_:∀u H',ie H H'->Is H' (XW d) u->Q u H')
inductive Lf:Sp
 |mk (v:V)(k:Str)(e:D)(_:vs= [v])(_:Is H (.tup [.str k,e]) v)(_:∀u H',ie H H'->Is H' (Qp (.tup [.str k,e])) u->Q u H')
def LG:#[T,1,a.Wj,a.wL,["end"],Lf]:=by
 exists 9,T.mR,nT
 erw[h,v,k,e,rfl,U,q];have hs:=uw;have O:=U;erw[U,p,ws,rfl,Z,w1,r1,rfl,[rfl,aa],w2,r2,rfl,h2,h3];cases(show r2= [] from h3)
 exists 3,%[|#[qv,#[ym,#[qt,Qk,#[qJ,qI,pv 0,ql],qp],#[qB,#v[qp,#[qJ,qI,pv 0,ql]]],pv 0]]]
 exists 0,p,_,_,0,1,SqT.of Z,1,1,0;by_cases c:k="said"
 ·refine lh (A9 (by rw[c])) ⟨0,p,_,_,0,1,SqT.of Z,1,(sml rfl),λt ht=>?_⟩
  refine q _ _ (qi ht _) ?_;unfold Qp
  try dsimp only
  rw[A6 c];exact Is.new ⟨_,0,yU (),_,0,h2,1⟩ ht
 ·refine iN (ub (λz=>c (V.str.inj z))) [0:q _ H (ie.refl _) ?_];unfold Qp
  try dsimp only
  rw[A4 c];exact O
def O6:#[T,1,a.j9,a.Jf,["source"],NX]:=by
 exists 9,T.lN,zI
 erw[h,v,d,rfl,U,hd,q];have hs:=uw;exists 3,%[#[qK,#[qt,YA,pv 0,Qe],%[|#[qv,#[qB,#v[qp]]]],qx]|#[qv,#[ym,#[qt,Qk,#[qJ,qI,pv 0,ql],qp],#[qB,#v[qp,#[qJ,qI,pv 0,ql]]],Qe]]]
 exists 0,1,0;rcases hd with rfl|⟨k,e,rfl⟩
 ·cases(show v= .non from U)
  refine lh (A9 rfl) [(sml rfl):λt O=>?_];exact q _ _ (qi O _) (Is.new ⟨_,0,yU (),1⟩ O)
 ·erw[U,p,ws,rfl,Z,w1,r1,rfl,[rfl,aa],w2,r2,rfl,h2,h3];cases(show r2= [] from h3)
  refine iN (ub (λz=>by cases z)) ?_
  exists 0,p,_,_,0,1,SqT.of Z,1,1,0;by_cases c:k="leaf"
  ·refine lh (A9 (by rw[c])) ⟨0,p,_,_,0,1,SqT.of Z,1,(sml rfl),λt O=>?_⟩
   refine q _ _ (qi O _) ?_;unfold XW
   try dsimp only
   rw[A6 c];exact Is.new ⟨_,0,yU (),_,0,h2,1⟩ O
  ·refine iN (ub (λz=>c (V.str.inj z))) (q _ H (ie.refl _) ?_);unfold XW
   try dsimp only
   rw[A4 c];exact(rfl:V.non=V.non)
end
structure Sy where
 G:Type
 fin:G->Bool
 want:G->oq Str
 own:G->G
 tk:G->oq D->G
 stuck:G->Str->G
 said:G->oq D
 g0:Str->oq G
 once:Str->oq D
 lft:G->Nat
 M:Nat
 ns:om Str
structure Sy.Ok (Y:Sy):Prop where
 fs:∀g m,Y.fin (Y.stuck g m)=v_
 ss:∀g m,Y.said (Y.stuck g m)=U_
 sf:∀g v,Y.said g=u_ v->Y.fin g=v_
 lo:∀g,Y.fin g=Vh->Y.want g=U_->Y.lft (Y.own g)<Y.lft g
 lt:∀g m a,Y.fin g=Vh->Y.want g=u_ m->Y.lft (Y.tk g a)<Y.lft g
 lk:∀g m,Y.fin g=Vh->Y.lft (Y.stuck g m)<Y.lft g
 l0:∀m g,Y.g0 m=u_ g->Y.lft g<=Y.M
 gn:∀m g,Y.g0 m=u_ g->m∈Y.ns
namespace Sy
variable {Y:Sy}
noncomputable abbrev Orc:=Str->oq (oq D)
nonrec def step (Y:Sy)(f:Orc)(g:Y.G):Y.G:=if Y.fin g=v_ then g else match Y.want g with
 |none=>Y.own g
 |some m=>match f m with
  |some a=>Y.tk g a
  |none=>Y.stuck g m
nonrec def it (Y:Sy)(f:Orc):Nat->Y.G->Y.G
 |0,g=>g
 |k+1,g=>it Y f k (step Y f g)
def Z4 {f:Orc}{g:Y.G}(h:Y.fin g=v_):step Y f g=g:=by unfold step;rw[A6 h]
def xB {f:Orc}{g:Y.G}(h:Y.fin g=v_):∀k,it Y f k g=g
 |0=>rfl
 |k+1=>by show it Y f k (step Y f g)=g;rw[Z4 h];exact xB h k
def wk {f:Orc}:∀(k j:Nat) (g:Y.G),it Y f (k+j) g=it Y f j (it Y f k g)
 |0,j,g=>by rw[HC];rfl
 |k+1,j,g=>by
  rw[Nat.add_right_comm];show it Y f (k+j) (step Y f g)=_;rw[wk k j]
  rfl
def Wm {f:Orc}(k:Nat)(g:Y.G):it Y f (k+1) g=step Y f (it Y f k g):=wk k 1 g
def AN (h:Y.Ok){f:Orc}{g:Y.G}(O:Y.fin g=Vh):Y.lft (step Y f g)<Y.lft g:=by
 unfold step;rw[O,A4 ua];cases U:Y.want g with
 |none=>exact h.lo g O U
 |some m=>
  show Y.lft (match f m with|some a=>Y.tk g a|none=>Y.stuck g m)<_
  cases f m with
  |some a=>exact h.lt g m a O U
  |none=>exact h.lk g m O
def kz (h:Y.Ok){f:Orc}:∀(k:Nat) (g:Y.G),Y.lft g<=k->Y.fin (it Y f k g)=v_
 |0,g,hl=>by
  show Y.fin g=v_;cases O:Y.fin g with
  |true=>rfl
  |false=>have:=AN (f:=f) h O;omega
 |k+1,g,hl=>by
  show Y.fin (it Y f k (step Y f g))=v_;cases O:Y.fin g with
  |true=>rw[Z4 O,xB O];exact O
  |false=>exact kz h k _ (by have:=AN (f:=f) h O;omega)
variable {j:Nat}
def it_one {f:Orc}{g:Y.G}{k:Nat}(O:Y.fin (it Y f k g)=v_)(U:Y.fin (it Y f j g)=v_):it Y f k g=it Y f j g:=by
 rcases tU k j with h|h
 ·erw[Ve h,d,rfl];rw[wk,xB O]
 ·erw[Ve h,d,rfl];rw[wk,xB U]
def Ar (h:Y.Ok){f f':Orc}(hm:∀m a,f m=u_ a->f' m=u_ a):∀(k:Nat) (g:Y.G),it Y f' k g=it Y f k g∨((∀j,it Y f j (it Y f k g)=it Y f k g)/\Y.said (it Y f k g)=U_)
 |0,g=> .inl rfl
 |k+1,g=>by
  show it Y f' k (step Y f' g)=it Y f k (step Y f g)∨_;by_cases c:step Y f' g=step Y f g
  ·rw[c];exact Ar h hm k _
  ·right;have U:Y.fin g=false:=by
    cases U:Y.fin g with
    |false=>rfl
    |true=>exact Aa (by rw[Z4 U,Z4 U]) c
   have e:∃m,step Y f g=Y.stuck g m:=by
    unfold step at c⊢;rw[U,A4 ua] at c⊢;rw[A4 ua] at c;cases Z:Y.want g with
    |none=>rw[Z] at c;exact Aa rfl c
    |some m=>
     rw[Z] at c;simp only at c⊢;cases O:f m with
     |none=>exact[m:1]
     |some a=>rw[O,hm m a O] at c;exact Aa rfl c
   erw[e,m,e];have e2:it Y f (k+1) g=Y.stuck g m:=by
    show it Y f k (step Y f g)=_;rw[e];exact xB (h.fs g m) k
   rw[e2];exact[xB (h.fs g m):h.ss g m]
def w6 (h:Y.Ok){f f':Orc}(hm:∀m a,f m=u_ a->f' m=u_ a){k:Nat}{g:Y.G}{v:D}(O:Y.said (it Y f k g)=u_ v):it Y f' k g=it Y f k g:=by
 rcases Ar h hm k g with e|⟨_,e⟩
 ·exact e
 ·rw[O] at e;cases e
nonrec def Fh (Y:Sy):Nat->Orc
 |0,m=>match Y.g0 m with
  |none=>u_ (Y.once m)
  |some _=>U_
 |h+1,m=>match Y.g0 m with
  |none=>u_ (Y.once m)
  |some g=>(Y.said (it Y (Fh Y h) Y.M g)).map u_
variable {m:Str}
def Xf (h:Y.g0 m=U_):∀k,Fh Y k m=u_ (Y.once m)
 |0=>by simp![Fh,h]
 |k+1=>by simp![Fh,h]
def ww {g:Y.G}(h:Y.g0 m=u_ g)(k:Nat):Fh Y (k+1) m=(Y.said (it Y (Fh Y k) Y.M g)).map some:=by simp![Fh,h]
def zD {g:Y.G}(h:Y.g0 m=u_ g):Fh Y 0 m=none:=by simp![Fh,h]
def ID (h:Y.Ok):∀(k:Nat) (m:Str) (a:oq D),Fh Y k m=u_ a->Fh Y (k+1) m=u_ a
 |0,m,a,e=>by
  cases O:Y.g0 m with
  |none=>rw[Xf O] at e⊢;exact e
  |some g=>rw[zD O] at e;cases e
 |k+1,m,a,e=>by
  cases O:Y.g0 m with
  |none=>rw[Xf O] at e⊢;exact e
  |some g=>
   rw[ww O] at e⊢;cases U:Y.said (it Y (Fh Y k) Y.M g) with
   |none=>rw[U] at e;cases e
   |some v=>
    rw[w6 h (ID h k) U];exact e
def SS (h:Y.Ok){k:Nat}(O:k<=j){a:oq D}(e:Fh Y k m=u_ a):Fh Y j m=u_ a:=by
 erw[Ve O,d,rfl]
 induction d with
 |zero=>exact e
 |succ d U=>exact ID h _ _ _ (U ())
open Classical in
nonrec def F (Y:Sy):Orc:=λm=>if h:∃a k,Fh Y k m=u_ a then u_ (choose h) else U_
def F_iff (h:Y.Ok){a:oq D}:F Y m=u_ a↔∃k,Fh Y k m=u_ a:=by
 unfold F;constructor
 ·intro e;by_cases c:∃a k,Fh Y k m=u_ a
  ·rw[dif_pos c] at e;have:=rS c;rwa[uF e] at this
  ·rw[dif_neg c] at e;cases e
 ·rintro⟨k,e⟩;have c:∃a k,Fh Y k m=u_ a:=[a:k:e];rw[dif_pos c];erw[rS c,j,U];have Z:=SS h (Nat.le_max_left k j) e;have O:=SS h (Nat.le_max_right k j) U;rw[Z] at O;exact O.symm
def F_of (h:Y.Ok){k:Nat}{a:oq D}(e:Fh Y k m=u_ a):F Y m=u_ a:=(F_iff h).mpr [k:e]
def zi (h:Y.Ok)(O:Y.g0 m=U_):F Y m=u_ (Y.once m):=F_of h (Xf O 0)
def CU (h:Y.Ok)(g:Y.G):∃k,∀j,k<=j->step Y (Fh Y j) g=step Y (F Y) g:=by
 unfold step;by_cases U:Y.fin g=v_
 ·exact⟨(0),λj _=>by rw[A6 U,A6 U]⟩
 ·cases hw:Y.want g with
  |none=>exact[(0):λj _=>rfl]
  |some m=>
   cases O:F Y m with
   |some a=>
    erw[(F_iff h).mp O,k,e];exact⟨k,λj Z=>by simp![SS h Z e,O]⟩
   |none=>
    exists (0),λj _=>?_;have:Fh Y j m=none:=by
     cases e:Fh Y j m with
     |none=>rfl
     |some a=>rw[F_of h e] at O;cases O
    simp![this,O]
def Ey (h:Y.Ok):∀(n:Nat) (g:Y.G),∃k,∀j,k<=j->it Y (Fh Y j) n g=it Y (F Y) n g
 |0,g=>[(0):λ_ _=>rfl]
 |n+1,g=>by
  erw[CU h g,k1,h1];erw[Ey h n (step Y (F Y) g),k2,h2];exists max k1 k2,λj O=>?_;show it Y (Fh Y j) n (step Y (Fh Y j) g)=it Y (F Y) n (step Y (F Y) g);rw[h1 j (),h2 j ()]
def F_run (h:Y.Ok){g:Y.G}(U:Y.g0 m=u_ g):F Y m=(Y.said (it Y (F Y) Y.M g)).map some:=by
 cases Z:Y.said (it Y (F Y) Y.M g) with
 |some v=>
  erw[Ey h Y.M g,k,e];refine F_of h (k:=k+1) ?_;rw[ww U,e k (ug _),Z]
  rfl
 |none=>
  show F Y m=U_;cases e:F Y m with
  |none=>rfl
  |some a=>
   erw[(F_iff h).mp e,k,e];cases k with
   |zero=>rw[zD U] at e;cases e
   |succ k=>
    rw[ww U] at e;cases O:Y.said (it Y (Fh Y k) Y.M g) with
    |none=>rw[O] at e;cases e
    |some v=>
     rw[<-w6 h (λm a q=>F_of h q) O,Z] at O;cases O
nonrec def Wt (Y:Sy)(n m:Str):Prop:=∃g k,Y.g0 n=u_ g/\Y.fin (it Y (F Y) k g)=Vh/\Y.want (it Y (F Y) k g)=u_ m
def CC (h:Y.Ok){n:Str}(w:Wt Y n m){k:Nat}{a:oq D}(e:Fh Y k n=u_ a):∃j b,j<k/\Fh Y j m=u_ b:=by
 erw[w,g,i,hg,hf,hw];cases k with
 |zero=>rw[zD hg] at e;cases e
 |succ k=>
  exists k;rw[ww hg] at e;cases U:Y.said (it Y (Fh Y k) Y.M g) with
  |none=>rw[U] at e;cases e
  |some v=>
   have O:=h.sf _ _ U;have eM:=w6 h (f':=F Y) (λm a q=>F_of h q) U;rcases Ar h (f:=Fh Y k) (f':=F Y) (λm a q=>F_of h q) i g with ei|⟨ei,es⟩
   ·rw[ei] at hf hw;cases hm:Fh Y k m with
    |some b=>exact[b:Tj k:1]
    |none=>
     have e1:it Y (Fh Y k) (i+1) g=Y.stuck (it Y (Fh Y k) i g) m:=by
      rw[Wm];unfold step;rw[hf,A4 ua,hw];simp![hm]
     have e2:Y.fin (it Y (Fh Y k) (i+1) g)=true:=by rw[e1];exact h.fs _ _
     rw[<-it_one e2 O,e1,h.ss] at U;cases U
   ·have Z:it Y (Fh Y k) (i+Y.M) g=it Y (Fh Y k) i g:=by rw[wk];exact ei _
    have e3:it Y (Fh Y k) (Y.M+i) g=it Y (Fh Y k) Y.M g:=by rw[wk];exact xB O i
    rw[<-e3,Nat.add_comm,Z,es] at U;cases U
inductive Wts (Y:Sy):Str->Str->Prop
 |one {n m:Str}:Wt Y n m->Wts Y n m
 |more {n m l:Str}:Wts Y n m->Wt Y m l->Wts Y n l
def IG (h:Y.Ok){n:Str}(w:Wts Y n m):∀{k:Nat}{a:oq D},Fh Y k n=u_ a->∃j b,j<k/\Fh Y j m=u_ b:=by
 induction w with
 |one w=>exact λe=>CC h w e
 |more _ w O=>
  intro k a e;erw[O e,j,b,hj,U];erw[CC h w U,i,c,hi,Z];exact⟨i,c,(),Z⟩
def zf (h:Y.Ok){n:Str}(w:Wts Y n n):F Y n=none:=by
 have O:∀k a,Fh Y k n≠u_ a:=by
  intro k
  induction k using Nat.strongRecOn with
  |_ k U=>
   intro a e;erw[IG h w e,j,b,Z,e1];exact U j Z b e1
 cases e:F Y n with
 |none=>rfl
 |some a=>
  erw[(F_iff h).mp e,k,e];exact Aa e (O k a)
structure Ss (Y:Sy) where
 stk:om (Str×Y.G)
 don:om (Str×Y.G)
nonrec def Ys (l:om (Str×Y.G))(m:Str):oq Y.G:=(l.find? λp=>decide (p.1=m)).map (·.2)
nonrec def yet (S:Ss Y)(m:Str):oq (oq (oq D)):=if m∈S.stk.map (·.1) then u_ U_ else match Y.g0 m with
 |none=>u_ (u_ (Y.once m))
 |some _=>(Ys S.don m).map λg=>(Y.said g).map u_
nonrec def nxt (S:Ss Y):Ss Y:=match S.stk with
 | []=>S
 |(n,g)::r=>if Y.fin g=v_ then[r:S.don++ [(n,g)]] else match Y.want g with
  |none=>[(n,Y.own g)::r:S.don]
  |some m=>match yet S m with
   |some (u_ a)=>[(n,Y.tk g a)::r:S.don]
   |some U_=>[(n,Y.stuck g m)::r:S.don]
   |none=>match Y.g0 m with
    |some g'=>[(m,g')::(n,g)::r:S.don]
    |none=>S
nonrec def nx (S:Ss Y):Nat->Ss Y
 |0=>S
 |k+1=>nxt (nx S k)
nonrec def rest (S:Ss Y):om Str:=Y.ns.filter λm=>decide (m∉S.stk.map (·.1))&&decide (m∉S.don.map (·.1))
nonrec def lfts:om (Str×Y.G)->Nat
 | []=>0
 |(_,g)::r=>Y.lft g+1+lfts r
nonrec def mu (S:Ss Y):Nat:=lfts S.stk+(Y.M+2)*↑(rest S)
variable {S:Ss Y}
def J9 (h:yet S m=U_):m∉S.stk.map (·.1)/\(∃g,Y.g0 m=u_ g)/\m∉S.don.map (·.1):=by
 unfold yet at h;by_cases c:m∈S.stk.map (·.1)
 ·rw[A6 c] at h;cases h
 ·rw[A4 c] at h;cases O:Y.g0 m with
  |none=>rw[O] at h;cases h
  |some g=>
   rw[O] at h;simp![tM] at h;exists c,[g:1],λhm=>?_;erw[Ag.mp hm,p,U,rfl];have h3:(S.don.find? λq=>decide (q.1=p.1))=none:=by simpa [Ys] using h
   rw[Uz] at h3;exact h3 p U (by simp)
variable {l:om Str}
def KL {p q:Str->Bool}(Z:m∈l)(hp:p m=v_)(hq:q m=Vh)(O:∀x,q x=v_->p x=v_):↑(l.filter q)<↑(l.filter p):=by
 induction l with
 |nil=>cases Z
 |cons x r U=>
  have le:↑(r.filter q)<=↑(r.filter p):=by
   clear U Z
   induction r with
   |nil=>exact ug _
   |cons y r U=>
    rw[vW,vW];cases h1:q y with
    |true=>rw[O y h1,A6 rfl,A6 rfl];simp![uj];omega
    |false=>
     rw[A4 ua];split
     ·simp![uj];omega
     ·exact U
  rw[vW,vW];rcases Ac.mp Z with rfl|hm
  ·rw[hp,hq,A6 rfl,A4 ua,uj];omega
  ·have:=U hm;cases h1:q x with
   |true=>rw[O x h1,A6 rfl,A6 rfl];simp![uj];omega
   |false=>
    rw[A4 ua];split
    ·simp![uj];omega
    ·exact this
def nxt_mu (h:Y.Ok)(hs:S.stk≠ []):mu (nxt S)<mu S:=by
 erw[S,stk,don];cases stk with
 |nil=>exact Aa rfl hs
 |cons p r=>
  erw[p,n,g];have same:∀g',Y.lft g'<Y.lft g->mu (⟨(n,g')::r,don⟩:Ss Y)<mu ⟨(n,g)::r,don⟩:=by
   intro g' hl;show Y.lft g'+1+lfts r+(Y.M+2)*_<Y.lft g+1+lfts r+(Y.M+2)*_;have e:rest (⟨(n,g')::r,don⟩:Ss Y)=rest ⟨(n,g)::r,don⟩:=rfl;rw[e];omega
  unfold nxt;simp only;cases O:Y.fin g with
  |true=>
   rw[A6 rfl];show lfts r+(Y.M+2)*_<Y.lft g+1+lfts r+(Y.M+2)*_;have e:rest (⟨r,don++ [(n,g)]⟩:Ss Y)=rest ⟨(n,g)::r,don⟩:=by
    unfold rest
    congr 1
    funext x
    simp![uh,ur,Uk,Uj,uC,uA,uP,<-Bool.decide_and];rw[uZ];constructor
    ·rintro⟨a,b⟩;exact[λz=>z.elim (λz=>b (.inr z)) a:λz=>b (.inl z)]
    ·rintro⟨a,b⟩;exact[λz=>a (.inr z):λz=>z.elim b λz=>a (.inl z)]
   rw[e];omega
  |false=>
   rw[A4 ua];cases hw:Y.want g with
   |none=>exact same _ (h.lo g O hw)
   |some m=>
    simp only;cases hy:yet ([(n,g)::r:don]:Ss Y) m with
    |some o=>
     cases o with
     |some a=>exact same _ (h.lt g m a O hw)
     |none=>exact same _ (h.lk g m O)
    |none=>
     simp only;erw[J9 hy,h1,[g',U],h2];rw[U];show Y.lft g'+1+(Y.lft g+1+lfts r)+(Y.M+2)*↑(rest ([(m,g')::(n,g)::r:don]:Ss Y))<Y.lft g+1+lfts r+(Y.M+2)*↑(rest ([(n,g)::r:don]:Ss Y));have e:↑(rest (⟨(m,g')::(n,g)::r,don⟩:Ss Y))<↑(rest (⟨(n,g)::r,don⟩:Ss Y)):=by
      refine KL (m:=m) (h.gn m g' U) ?_ ?_ ?_
      ·simp![uu,uR];exact[h1:h2]
      ·simp
      ·intro x Z;simp![uu,uR] at Z⊢;exact[λz=>Z.1 (uc _ z):Z.2]
     have l0:=h.l0 m g' U;have e2:=Nat.mul_le_mul_left (Y.M+2) (Nat.succ_le_of_lt e);rw[Nat.mul_succ] at e2;omega
nonrec def Chn (Y:Sy):om (Str×Y.G)->Prop
 | []=>True
 |(n,g)::r=>(∃s k,Y.g0 n=u_ s/\g=it Y (F Y) k s)/\Chn Y r/\∀p r',r=p::r'->Y.fin p.2=Vh/\Y.want p.2=u_ n
structure SOk (n0:Str)(S:Ss Y):Prop where
 chn:Chn Y S.stk
 nd:(S.stk.map (·.1)++S.don.map (·.1)).Nodup
 don:∀p∈S.don,∃s,Y.g0 p.1=u_ s/\p.2=it Y (F Y) Y.M s
 bot:(S.stk.map (·.1)).getLast? =u_ n0∨S.stk= []/\(S.don.map (·.1)).getLast? =u_ n0
def Ij {n:Str}{g:Y.G}:∀{r:om (Str×Y.G)}{m:Str},Chn Y ((n,g)::r)->m∈r.map (·.1)->Wts Y m n:=by
 intro r
 induction r generalizing n g with
 |nil=>intro m _ h;cases h
 |cons p r ih=>
  intro m hc hm;erw[p,O,g'];erw[hc,_,U,c3];erw[c3 (O,g') r rfl,f1,w1];erw[U.1,s,k,hs,Z];have w:Wt Y O n:=⟨s,k,hs,by rwa[<-Z],by rwa[<-Z]⟩
  rcases Ac.mp hm with rfl|hm
  ·exact .one w
  ·exact .more (ih U hm) w
def Zy {l:om (Str×Y.G)}{g:Y.G}(h:Ys l m=u_ g):(m,g)∈l:=by
 unfold Ys at h;cases e:l.find? λp=>decide (p.1=m) with
 |none=>rw[e] at h;cases h
 |some p=>
  rw[e] at h;cases uF h;have:=HG e;have hm:p.1=m:=um this;rw[<-hm];exact Ub e
variable {n0:Str}
def AaV (h:Y.Ok)(hs:SOk n0 S):SOk n0 (nxt S):=by
 erw[S,stk,don];cases stk with
 |nil=>exact hs
 |cons p r=>
  erw[p,n,g];erw[hs,chn,nd,O,bot];erw[chn,[s,k,U,hk],c2,c3];have on:∀g',Y.fin g=Vh->step Y (F Y) g=g'->SOk n0 (⟨(n,g')::r,don⟩:Ss Y):=by
   intro g' hf e;exists [⟨s,k+1,U,?_⟩:c2:c3],nd,O,.inl ?_
   ·rw[Wm,<-hk,e]
   ·rcases bot with b|⟨b,_⟩
    ·exact b
    ·cases b
  unfold nxt;simp only;cases hf:Y.fin g with
  |true=>
   rw[A6 rfl];exists c2,?_,λq hq=>?_,?_
   ·show(r.map (·.1)++(don++ [(n,g)]).map (·.1)).Nodup;have ac:(n::(r.map (·.1)++don.map (·.1))).Nodup:=nd;rw[uh,<-UJ];show((r.map (·.1)++don.map (·.1))++ [n]).Nodup;exact(vR (l₁:= [n]) (l₂:=r.map (·.1)++don.map (·.1))).nodup_iff.mp ac
   ·rcases Af.mp hq with hq|hq
    ·exact O q hq
    ·cases Ae.mp hq;exists s,U;show g=_;rw[hk];refine it_one (by rwa[<-hk]) (kz h _ _ (h.l0 n s U))
   ·rcases bot with b|⟨b,_⟩
    ·cases r with
     |nil=>
      right;exists 1;have hn:n=n0:=by simpa using b
      show((don++ [(n,g)]).map (·.1)).getLast? =u_ n0;rw[uh,hn];simp
     |cons q r=>
      left
      simpa [V4] using b
    ·cases b
  |false=>
   rw[A4 ua];have aa:step Y (F Y) g=match Y.want g with
     |none=>Y.own g
     |some m=>match F Y m with
      |some a=>Y.tk g a
      |none=>Y.stuck g m:=by
    unfold step;rw[hf,A4 ua]
   cases hw:Y.want g with
   |none=>exact on _ hf (by rw[aa,hw])
   |some m=>
    rw[hw] at aa;simp only at aa⊢;cases Z:yet ([(n,g)::r:don]:Ss Y) m with
    |some o=>
     have hF:F Y m=o:=by
      unfold yet at Z;by_cases c:m∈((n,g)::r).map (·.1)
      ·rw[A6 c] at Z;cases Z;have w:Wt Y n m:=⟨s,k,U,by rwa[<-hk],by rwa[<-hk]⟩
       rcases Ac.mp c with rfl|hm
       ·exact zf h (.one w)
       ·exact zf h (.more (Ij (g:=g) [⟨s,k,U,hk⟩:c2:c3] hm) w)
      ·rw[A4 c] at Z;cases hg:Y.g0 m with
       |none=>
        rw[hg] at Z;cases Z;exact zi h hg
       |some gm=>
        rw[hg] at Z;simp only at Z;cases hd:Ys don m with
        |none=>rw[hd] at Z;cases Z
        |some gd=>
         rw[hd] at Z;cases Z;erw[O _ (Zy hd),s',e1,e2];rw[hg] at e1;cases e1;have e3:gd=it Y (F Y) Y.M gm:=e2;rw[F_run h hg,e3]
     cases o with
     |some a=>exact on _ hf (by rw[aa,hF])
     |none=>exact on _ hf (by rw[aa,hF])
    |none=>
     simp only;erw[J9 Z,h1,[g',hg],h2];rw[hg];exists [⟨g',(0),hg,1⟩:[⟨s,k,U,hk⟩:c2:c3]:λq r' e=>?_],?_,O,.inl ?_
     ·cases e;exact[hf:hw]
     ·show(m::(((n,g)::r).map (·.1)++don.map (·.1))).Nodup;rw[U1];exists λz=>?_,nd;rcases Af.mp z with z|z
      ·exact h1 z
      ·exact h2 z
     ·rcases bot with b|⟨b,_⟩
      ·show(m::n::r.map (·.1)).getLast? =u_ n0;rwa[V4]
      ·cases b
def nx_ok (h:Y.Ok){n0:Str}{S:Ss Y}(O:SOk n0 S):∀k,SOk n0 (nx S k)
 |0=>O
 |k+1=>AaV h (nx_ok h O k)
def Al {S:Ss Y}{k:Nat}(h:(nx S k).stk= []):∀j,nx S (k+j)=nx S k
 |0=>rfl
 |j+1=>by
  show nxt (nx S (k+j))=_;rw[Al h j];unfold nxt;rw[h]
def nx_one {k:Nat}(O:(nx S k).stk= [])(U:(nx S j).stk= []):nx S k=nx S j:=by
 rcases tU k j with h|h
 ·erw[Ve h,d,rfl];exact(Al O d).symm
 ·erw[Ve h,d,rfl];exact Al U d
nonrec def S0 (Y:Sy)(n:Str):Ss Y:=match Y.g0 n with
 |none=>[[]:[]]
 |some g=>[[(n,g)]:[]]
def S0_ok {n:Str}{g:Y.G}(O:Y.g0 n=u_ g):SOk n (S0 Y n):=by
 unfold S0;rw[O];exact⟨⟨⟨g,(0),O,1⟩,trivial,λ_ _ e=>by cases e⟩,by simp,λ_ h=>(by cases h),.inl rfl⟩
end Sy
end K22
namespace K22
open PySem L2 PyProof.Rows
nonrec def ThS (d:D):Prop:=(∃z,d=flt z)∨(∃e,d= .tup [.str "said",e]/\isT e=v_)∨∃(u z:Str),d= .tup [.str "asks",.tup [.str u,.str z]]/\isT (.str z)=v_/\(u="names"∨(u="thing"∨u="has")/\nm z=v_)
def EC {d:D}(h:mK d=v_):∃z,d= .str z/\nm z=true:=by
 cases d with
 |str z=>exact[z:1:h]
 |_=>cases h
variable {own:Str}{n:Nat}{r:Rw}{e:D}
def Ox {B:Str->D}{p:Int}(hr:Jj n 300 r)(h:Tr B)(O:mF own r B p= .stop e):ThS e:=by
 unfold mF at O;erw[id hr,ks,hk,hp];erw[r,U,ps];by_cases c1:U∈MKR
 ·rw[A6 c1] at O;simp only at O;generalize made U B own ps=dm at O;have aa:(if isT dm=v_ then Out.go (AR B (b0 ps) dm) (p+1) else .stop (flt "big"))= .stop e->ThS e:=by
   intro hq;by_cases c:isT dm=v_
   ·rw[A6 c] at hq;cases hq
   ·rw[A4 c] at hq;cases hq;exact .inl ⟨0⟩
  cases dm with
  |non=>cases O;exact .inl ⟨0⟩
  |_=>exact aa O
 rw[A4 c1] at O;by_cases c2:U∈ASK
 ·rw[A6 c2] at O;cases O;erw[wT _ hk c2,_,_,ek];simp only at ek;subst ek;erw[wB hp,z0,z1,rfl,h0,h1];have hT:=h z1 h1;show ThS (sI U (B z1));unfold sI;by_cases d1:U="names"
  ·rw[A6 d1];by_cases Z:isStr (B z1)=v_
   ·rw[A6 Z];obtain⟨z,ez⟩:∃z,B z1= .str z:=by
     cases hb:B z1 with
     |str z=>exact[z:1]
     |_=>rw[hb] at Z;cases Z
    rw[ez] at hT⊢;exact .inr (.inr ⟨_,z,1,hT,.inl rfl⟩)
   ·rw[A4 Z];exact .inl ⟨0⟩
  ·rw[A4 d1];by_cases Z:mK (B z1)=v_
   ·rw[A6 Z];erw[EC Z,z,ez,hz];rw[ez] at hT⊢;refine .inr (.inr ⟨_,z,1,hT,.inr [?_:hz]⟩);split
    ·exact .inl rfl
    ·exact .inr rfl
   ·rw[A4 Z];exact .inl ⟨0⟩
 rw[A4 c2] at O;by_cases c3:U="say"
 ·rw[A6 c3] at O;cases O;subst c3;have ek:=Au _ hk rfl;simp only at ek;subst ek;erw[Acu hp,z0,rfl,h0];exact .inr (.inl [0:h z0 h0])
 rw[A4 c3] at O;by_cases c4:U="fault"
 ·rw[A6 c4] at O;cases O;exact .inl ⟨0⟩
 rw[A4 c4] at O;by_cases c5:MY U B ps=v_
 ·rw[A6 c5] at O;cases O
 ·rw[A4 c5] at O;cases O
def sS {rs:om Rw}{own:Str}(U:yj rs):∀(f:Nat) (B:Str->D) (p:Int) (n:Nat) (gs:om D),Tr B->1<=p->p<=↑rs+1->ThS (mJ rs own gs f B p n).th
 |0,B,p,n,gs,hT,h1,h2=>by
  show ThS (if p>↑rs then flt "silent" else flt "long")
  split<;>exact .inl ⟨0⟩
 |f+1,B,p,n,gs,hT,h1,h2=>by
  unfold mJ;by_cases c:p>↑rs
  ·rw[A6 c];exact .inl ⟨0⟩
  ·rw[A4 c];have O:=U.ok _ (Kn h1 ())
   have hok:=sV (own:=own) O hT h1 ()
   cases Z:mF own (Jl rs p) B p with
   |go B' p'=>
    rw[Z] at hok;exact sS U f B' p' (n+1) gs hok.1 hok.2.1 hok.2.2
   |stop e=>exact Ox O hT Z
variable {rs:om Rw}
def Ix (O:yj rs){r:Rn}{a:D}(h:Nq rs r)(U:QP r.th=v_)(ha:Jk a):ThS (mS rs own r a).th:=by
 erw[h.ask U,k1,_];unfold mS;cases hn:XG a with
 |true=>rw[A6 rfl];exact .inl ⟨0⟩
 |false=>
  rw[A4 ua];have Z:isT a=true:=by
   rcases ha with rfl|ha
   ·cases hn
   ·exact ha
  exact sS O _ _ _ _ _ (Km h.tr Z) (by have:=h.p1;omega) ()
def MB {rs:om Rw}{own:Str}:∀(f:Nat) (B:Str->D) (p:Int) (n:Nat) (gs:om D),QP (mJ rs own gs f B p n).th=v_->1<=f/\n<=(mJ rs own gs f B p n).n
 |0,B,p,n,gs,h=>by
  have h:QP (if p>↑rs then flt "silent" else flt "long")=true:=h
  split at h<;>exact Aa h ()
 |f+1,B,p,n,gs,h=>by
  exists ()
  unfold mJ at h⊢;by_cases c:p>↑rs
  ·rw[A6 c] at h;exact Aa h (show¬QP (flt "silent")=v_ by decide+kernel)
  ·rw[A4 c] at h⊢;cases U:mF own (Jl rs p) B p with
   |go O p'=>
    rw[U] at h;have:=(MB f O p' (n+1) gs h).2;show n<=(mJ rs own gs f O p' (n+1)).n;omega
   |stop e=>
    show n<=(if QP e=v_ then n else n+1)
    split<;>omega
def AbG {r:Rn}{a:D}(h:QP (mS rs own r a).th=v_):r.n+1<300/\r.n+1<=(mS rs own r a).n:=by
 unfold mS at h⊢;cases hn:XG a with
 |true=>rw[hn,A6 rfl] at h;exact Aa h (show¬QP (flt "lack")=v_ by decide+kernel)
 |false=>
  rw[hn,A4 ua] at h;rw[A4 ua];have:=MB _ _ _ _ _ h;exact[():this.2]
structure Gp where
 n:Str
 mb:D
 ra:om D
 run:oq (om Rw×Rn)
 en:oq D
nonrec def mi (r:Rn):oq D:=if QP r.th=v_ then U_ else u_ r.th
nonrec def mV (g:Gp)(d:D):Gp:=if XG d=v_ then{g with en:=u_ (flt "lack")} else match ya d with
 |none=>{g with en:=u_ (flt "rule")}
 |some rs=>{g with run:=u_ (rs,R0 rs g.n),en:=mi (R0 rs g.n)}
nonrec def QT (g:Gp)(d:D):Gp:=match g.run with
 |none=>mV {g with ra:= [.tup [.tup [.str "rule",g.mb],d]]} d
 |some (rs,r)=>{g with run:=u_ (rs,mS rs g.n r d),en:=mi (mS rs g.n r d)}
nonrec def xr (g:Gp):D:=match g.run with
 |none=> .tup [.str "rule",g.mb]
 |some (_,r)=>wm r.th
nonrec def xR (qs:om (Str×D))(k z:Str):D:=if k="has" then .str (if z∈qs.map (·.1) then "yes" else "no") else sL (sM [] ((qs.map (·.1)).filter λy=>VA y z))
nonrec def BA (k:Str):Bool:=decide (k="has")||decide (k="names")
nonrec def Q5 (g:Gp):oq Str:=match xr g with
 | .tup [.str k,.str z]=>if BA k=v_ then U_ else u_ z
 |_=>U_
nonrec def m6 (qs:om (Str×D))(g:Gp):Gp:=match xr g with
 | .tup [.str k,.str z]=>QT g (xR qs k z)
 |_=>{g with en:=u_ (flt "name")}
nonrec def xq:D->oq D
 | .tup [.str k,v]=>if k="said" then u_ v else U_
 |_=>U_
nonrec def Yl (g:Gp):oq D:=g.en.bind xq
nonrec def m8 (g:Gp)(m:Str):Gp:={g with en:=u_ (.tup [.str "stuck",.str m])}
nonrec def nw (g:Gp):Nat:=match g.en with
 |some _=>0
 |none=>match g.run with
  |none=>302
  |some (_,r)=>1+(300-r.n)
nonrec def g0D (m:Str):D->oq Gp
 | .tup [.str k,e]=>if k="leaf" then U_ else if k="made" then u_ ⟨m,e,[],U_,U_⟩ else u_ (mV ⟨m,.non,[],U_,U_⟩ e)
 |_=>U_
nonrec def WZ:D->oq D
 | .tup [.str _,e]=>u_ e
 |_=>U_
nonrec def SyP (qs:om (Str×D)):Sy:=⟨Gp,λg=>g.en.isSome,Q5,m6 qs,λg a=>QT g (a.getD .non),m8,Yl,λm=>g0D m (qG qs m),λm=>WZ (qG qs m),nw,(302),qs.map (·.1)⟩
variable {g:Gp}
def Em (h:g.run=U_)(d:D):g.en=U_->nw (mV g d)<302:=by
 intro O;unfold mV;split
 ·show(0:Nat)<302;omega
 ·cases U:ya d with
  |none=>show(0:Nat)<302;omega
  |some rs=>
   show(match mi (R0 rs g.n) with|some _=>0|none=>1+(300-(R0 rs g.n).n))<302
   cases mi (R0 rs g.n) with
   |some d=>show(0:Nat)<302;omega
   |none=>show(1+(300-(R0 rs g.n).n):Nat)<302;omega
def Kt (O:g.en=U_)(d:D):nw (QT g d)<nw g:=by
 unfold QT;cases U:g.run with
 |none=>
  have e:nw g=302:=by unfold nw;rw[O,U]
  rw[e];exact Em (g:=⟨g.n,g.mb,[.tup [.tup [.str "rule",g.mb],d]],U_,g.en⟩) rfl d O
 |some p=>
  erw[p,rs,r];have e:nw g=1+(300-r.n):=by unfold nw;rw[O,U]
  rw[e];show(match mi (mS rs g.n r d) with|some _=>0|none=>1+(300-(mS rs g.n r d).n))<_
  unfold mi;by_cases c:QP (mS rs g.n r d).th=v_
  ·rw[A6 c];have:=AbG c;show 1+(300-(mS rs g.n r d).n)<1+(300-r.n);omega
  ·rw[A4 c];show 0<1+(300-r.n);omega
variable {qs:om (Str×D)}{z:Str}
def jh (h:z∉qs.map (·.1)):qG qs z= .non:=by
 unfold qG;have:(qs.find? λp=>decide (p.1=z))=none:=by
  rw[Uz];intro p O e;exact h (Ag.mpr [p:O:um e])
 rw[this]
 rfl
def Qg (qs:om (Str×D)):(SyP qs).Ok where
 fs:=λ_ _=>rfl
 ss:=λg m=>by
  show xq (.tup [.str "stuck",.str m])=U_;unfold xq;exact A4 ()
 sf:=λg v h=>by
  have h:Yl g=u_ v:=h;unfold Yl at h;show g.en.isSome=v_;cases O:g.en with
  |none=>rw[O] at h;cases h
  |some d=>rfl
 lo:=λg U Z=>by
  have O:g.en=none:=by
   cases O:g.en with
   |none=>rfl
   |some d=>have U:g.en.isSome=false:=U;rw[O] at U;cases U
  show nw (m6 qs g)<nw g;unfold m6;split
  ·exact Kt O _
  ·have:0<nw g:=by
    unfold nw;rw[O];simp only;split<;>omega
   exact this
 lt:=λg m a U Z=>by
  have O:g.en=none:=by
   cases O:g.en with
   |none=>rfl
   |some d=>have U:g.en.isSome=false:=U;rw[O] at U;cases U
  exact Kt O _
 lk:=λg m U=>by
  have O:g.en=none:=by
   cases O:g.en with
   |none=>rfl
   |some d=>have U:g.en.isSome=false:=U;rw[O] at U;cases U
  show 0<nw g;unfold nw;rw[O];simp only;split<;>omega
 l0:=λm g h=>by
  have h:g0D m (qG qs m)=u_ g:=h;show nw g<=302;unfold g0D at h;split at h
  ·split at h
   ·cases h
   ·split at h
    ·cases h;exact ug _
    ·cases h;exact V9 (Em rfl _ rfl)
  ·cases h
 gn:=λm g h=>by
  have h:g0D m (qG qs m)=u_ g:=h;show m∈qs.map (·.1);by_cases c:m∈qs.map (·.1)
  ·exact c
  ·rw[jh c] at h;cases h
nonrec def EnS (d:D):Prop:=(∃z,d=flt z)∨(∃e,d= .tup [.str "said",e]/\isT e=v_)∨∃z,d= .tup [.str "stuck",.str z]
structure GI (g:Gp):Prop where
 n:nm g.n=v_
 run:∀rs r,g.run=u_ (rs,r)->yj rs/\Nq rs r/\ThS r.th/\(g.en=U_->QP r.th=v_)
 no:g.run=U_->g.en=U_->∃z,g.mb= .str z/\nm z=v_
 en:∀d,g.en=u_ d->EnS d
 ra:nL g.ra=v_/\dpL g.ra<=30/\↑g.ra<=1
def Abr {r:Rn}(h:ThS r.th){d:D}(e:mi r=u_ d):EnS d:=by
 unfold mi at e;by_cases c:QP r.th=v_
 ·rw[A6 c] at e;cases e
 ·rw[A4 c] at e;cases e;rcases h with h|h|⟨u,z,h,_⟩
  ·exact .inl h
  ·exact .inr (.inl h)
  ·rw[h] at c;exact Aa (show decide (("asks":Str)="asks")=v_ from A9 rfl) c
def E4 {r:Rn}(e:mi r=U_):QP r.th=true:=by
 unfold mi at e;by_cases c:QP r.th=v_
 ·exact c
 ·rw[A4 c] at e;cases e
def SI {n:Str}(h:yj rs):ThS (R0 rs n).th:=sS h 300 B0 1 0 [] SU () (by have:=h.n0;omega)
def Na (d:D)(h1:nm g.n=v_)(h2:g.run=U_)(h3:nL g.ra=v_/\dpL g.ra<=30/\↑g.ra<=1):GI (mV g d):=by
 unfold mV;split
 ·exact⟨h1,λrs r e=>(by rw[show g.run=u_ (rs,r) from e] at h2;cases h2),(λ_ e=>by cases e),λd e=>by cases e;exact .inl ⟨0⟩,h3⟩
 ·cases U:ya d with
  |none=>exact⟨h1,λrs r e=>(by rw[show g.run=u_ (rs,r) from e] at h2;cases h2),(λ_ e=>by cases e),λd e=>by cases e;exact .inl ⟨0⟩,h3⟩
  |some rs=>
   have O:=(Wv U).2;exact⟨h1,λZ r e=>by cases e;exact⟨O,AbK O,SI O,λe=>E4 e⟩,λe _=>(by cases e),λd e=>Abr (SI O) e,h3⟩
def KZ (h:GI g)(U:g.en=U_){d:D}(ha:Jk d):GI (QT g d):=by
 unfold QT;cases Z:g.run with
 |none=>
  erw[h.no Z U,z,hz,_];refine Na d h.n rfl ?_;have O:nD d=v_/\dp d<=12:=by
   rcases ha with rfl|ha
   ·exact⟨1,by simp[dp]⟩
   ·exact[BC (yl ha):Ws ha]
  rw[hz];exists ?_,?_,ug _
  ·simp![nL,nD,O.1,Um]
  ·simp![dpL,dp];have:=O.2;omega
 |some p=>
  erw[p,rs,r];erw[h.run rs r Z,k1,k2,k3,k4];have hs:=Ix (own:=g.n) k1 k2 (k4 U) ha;exact⟨h.n,λaa r' e=>by cases e;exact⟨k1,Iy k1 k2 (k4 U) ha,hs,λe=>E4 e⟩,λe _=>(by cases e),λd e=>Abr hs e,h.ra⟩
def EL (h:GI g)(m:Str):GI (m8 g m):=⟨h.n,λrs r e=>⟨(h.run rs r e).1,(h.run rs r e).2.1,(h.run rs r e).2.2.1,(λz=>by cases z)⟩,(λ_ e=>by cases e),λd e=>by cases e;exact .inr (.inr [m:1]),h.ra⟩
def nW:∀(zs O:om Str),isT (sL O)=v_->isT (sL (sM O zs))=v_
 | [],O,h=>h
 |z::r,O,h=>by
  unfold sM;split
  ·rename_i c;exact nW r _ c
  ·exact h
def KH (U:QQ qs){k:Str}(z:Str)(hk:BA k=v_):isT (xR qs k z)=v_/\Cw k (xR qs k z)=true:=by
 unfold xR;by_cases c:k="has"
 ·rw[A6 c,c];split<;>exact[():()]
 ·rw[A4 c];have O:isT (sL (sM [] ((qs.map (·.1)).filter λy=>VA y z)))=true:=nW _ [] ()
  exists O;have Z:LU (sL (sM [] ((qs.map (·.1)).filter λy=>VA y z)))=true:=by
   show List.all (Fy D.str _) mK=v_;rw[Ur];intro x hx;erw[Ag.mp hx,y,hy,rfl];rcases AW _ _ _ hy with h|h
   ·cases h
   ·exact U.1.1.1 y (Ah.mp h).1
  unfold Cw;rw[A4 (show¬XG (sL _)=v_ from ua),A6 O,A4 c,Z,Bool.or_true]
def ZY (h:GI g)(he:g.en=U_)(U:Q5 g=U_):∃rs r k z,g.run=u_ (rs,r)/\r.th= .tup [.str "asks",.tup [.str k,.str z]]/\BA k=v_/\isT (.str z)=v_/\m6 qs g=QT g (xR qs k z):=by
 unfold Q5 at U;cases Z:g.run with
 |none=>
  erw[h.no Z he,z,hz,_];have e:xr g= .tup [.str "rule",.str z]:=by unfold xr;rw[Z,hz]
  rw[e] at U;simp![show BA "rule"=Vh by decide+kernel,A4 ua] at U
  cases U
 |some p=>
  erw[p,rs,r];erw[h.run rs r Z,k1,k2,k3,k4];have O:=k4 he;rcases k3 with⟨z,e⟩|⟨d,e,_⟩|⟨u,z,e,ht,hu⟩
  ·rw[e] at O;exact Aa O (by show¬decide (("fault":Str)="asks")=v_;decide+kernel)
  ·rw[e] at O;exact Aa O (by show¬decide (("said":Str)="asks")=v_;decide+kernel)
  ·have e2:xr g= .tup [.str u,.str z]:=by unfold xr;rw[Z];show wm r.th=_;rw[e];rfl
   rw[e2] at U;simp only at U;cases hk:BA u with
   |false=>rw[hk,A4 ua] at U;cases U
   |true=>exact⟨rs,r,u,z,1,e,hk,ht,by unfold m6;rw[e2]⟩
variable {m:Str}
def kt (h:GI g)(he:g.en=U_)(O:Q5 g=u_ m):nm m=v_/\((g.run=U_/\g.mb= .str m)∨∃rs r,g.run=u_ (rs,r)/\r.th= .tup [.str "asks",.tup [.str "thing",.str m]]):=by
 unfold Q5 at O;cases Z:g.run with
 |none=>
  erw[h.no Z he,z,hz,hn];have e:xr g= .tup [.str "rule",.str z]:=by unfold xr;rw[Z,hz]
  rw[e] at O;simp![show BA "rule"=Vh by decide+kernel,A4 ua] at O
  cases O;exact[hn:.inl [1:hz]]
 |some p=>
  erw[p,rs,r];erw[h.run rs r Z,k1,k2,k3,k4];have U:=k4 he;rcases k3 with⟨z,e⟩|⟨d,e,_⟩|⟨u,z,e,ht,hu⟩
  ·rw[e] at U;exact Aa U (by show¬decide (("fault":Str)="asks")=v_;decide+kernel)
  ·rw[e] at U;exact Aa U (by show¬decide (("said":Str)="asks")=v_;decide+kernel)
  ·have e2:xr g= .tup [.str u,.str z]:=by unfold xr;rw[Z];show wm r.th=_;rw[e];rfl
   rw[e2] at O;simp only at O;rcases hu with rfl|⟨rfl|rfl,hn⟩
   ·rw[A6 ()] at O;cases O
   ·rw[A4 ()] at O
    cases O;exact[hn:.inr ⟨rs,r,1,e⟩]
   ·rw[A6 ()] at O;cases O
def BD (U:QQ qs)(h:GI g)(O:g.en=U_)(Z:Q5 g=U_):GI (m6 qs g):=by
 erw[ZY (qs:=qs) h O Z,rs,r,k,z,_,_,hk,_,e];rw[e];exact KZ h O (.inr (KH U z hk).1)
def X4 (U:QQ qs)(h:m∈qs.map (·.1)):nm m=v_/\∃k e,qG qs m= .tup [.str k,e]/\(k="made"->∃z,e= .str z/\nm z=v_)/\(k≠"made"->(k="leaf"∨k="rule")/\isT e=v_):=by
 have hs:=U.1.2 _ (Ie U.1.1.2 h);erw[hs,[k,e,O],h2,_];have O:qG qs m= .tup [.str k,e]:=O;have h2:oS (qG qs m)=true:=h2;rw[O] at h2;have e1:oS (.tup [.str k,e])=if eqD (.str k) (.str "made")=v_ then mK e else(eqD (.str k) (.str "leaf")||eqD (.str k) (.str "rule"))&&isT e:=rfl
 rw[e1] at h2;have Z:∀y:Str,eqD (.str k) (.str y)=decide (k=y):=λy=>rfl;rw[Z,Z,Z] at h2;exists U.1.1.1 m h,k,e,O,λc=>?_,λc=>?_
 ·rw[A9 c,A6 rfl] at h2;exact EC h2
 ·rwa[ub c,A4 ua,uu,HB,uR,uR] at h2
def oX (U:QQ qs)(h:g0D m (qG qs m)=u_ g):GI g/\g.n=m:=by
 have hm:m∈qs.map (·.1):=(Qg qs).gn m g h;erw[X4 U hm,hn,k,e,hd,h1,h2];rw[hd] at h;unfold g0D at h;simp only at h;have O:nL ([]:om D)=v_/\dpL ([]:om D)<=30/\↑([]:om D)<=1:=⟨1,by simp[dpL],uG _⟩
 split at h
 ·cases h
 ·split at h
  ·rename_i c
   cases h;erw[h1 c,z,rfl,Z];exact⟨⟨hn,λrs r e=>(by cases e),λ_ _=>[z:1:Z],λd e=>(by cases e),O⟩,1⟩
  ·cases h;exists Na e hn rfl O;unfold mV;split
   ·rfl
   ·split<;>rfl
def sR (h:GI g){v:D}(e:Yl g=u_ v):isT v=true:=by
 unfold Yl at e;cases O:g.en with
 |none=>rw[O] at e;cases e
 |some d=>
  rw[O] at e;have e:xq d=u_ v:=e;rcases h.en d O with⟨z,rfl⟩|⟨x,rfl,U⟩|⟨z,rfl⟩
  ·exact Aa e (by unfold xq flt;simp only;rw[A4 ()];exact λh=>by cases h)
  ·have Z:xq (.tup [.str "said",x])=u_ x:=by unfold xq;dsimp only;exact A6 rfl
   rw[Z] at e;cases e;exact U
  ·exact Aa e (by unfold xq;simp only;rw[A4 ()];exact λh=>by cases h)
def Mr (g:Gp)(d:D):(QT g d).n=g.n:=by
 unfold QT;split
 ·unfold mV;split
  ·rfl
  ·split<;>rfl
 ·rfl
def AcH (qs:om (Str×D))(g:Gp):(m6 qs g).n=g.n:=by
 unfold m6;split
 ·exact Mr _ _
 ·rfl
nonrec def SGI {qs:om (Str×D)}(S:Sy.Ss (SyP qs)):Prop:=∀p:Str×Gp,p∈S.stk∨p∈S.don->GI p.2/\p.2.n=p.1
def Mm (Z:QQ qs){S:Sy.Ss (SyP qs)}(h:SGI S){a:oq D}(e:Sy.yet S m=u_ (u_ a)):Jk (a.getD .non):=by
 unfold Sy.yet at e;split at e
 ·cases e
 ·split at e
  ·rename_i O
   cases e;have O:g0D m (qG qs m)=none:=O;show Jk ((WZ (qG qs m)).getD .non);by_cases hm:m∈qs.map (·.1)
   ·erw[X4 Z hm,hn,k,e,hd,h1,h2];rw[hd] at O⊢;unfold g0D at O;simp only at O;by_cases c:k="leaf"
    ·exact .inr (h2 (by rw[c];decide+kernel)).2
    ·rw[A4 c] at O;split at O<;>cases O
   ·rw[jh hm];exact .inl rfl
  ·cases hd:Sy.Ys S.don m with
   |none=>rw[hd] at e;cases e
   |some g=>
    rw[hd] at e;have e:(Yl g).map u_=u_ a:=uF e;cases U:Yl g with
    |none=>rw[U] at e;cases e
    |some v=>
     rw[U] at e;cases e;exact .inr (sR (h (m,g) (.inr (Sy.Zy hd))).1 U)
def Ea (hq:QQ qs){S:Sy.Ss (SyP qs)}(h:SGI S):SGI (Sy.nxt S):=by
 erw[S,stk,don];cases stk with
 |nil=>exact h
 |cons p r=>
  erw[p,n,g];erw[h (n,g) (.inl ue),U,hn];have on:∀g':Gp,GI g'->g'.n=n->SGI #[Y,(n,g')::r,don]:=by
   intro g' h1 h2 p O;rcases O with O|O
   ·rcases Ac.mp O with rfl|O
    ·exact[h1:h2]
    ·exact h p (.inl (uc _ O))
   ·exact h p (.inr O)
  unfold Sy.nxt;simp only;by_cases hf:(SyP qs).fin g=v_
  ·rw[A6 hf];intro p O;rcases O with O|O
   ·exact h p (.inl (uc _ O))
   ·rcases Af.mp O with O|O
    ·exact h p (.inr O)
    ·cases Ae.mp O;exact[U:hn]
  ·rw[A4 hf];have Z:Gp.en g=none:=by
    cases Z:Gp.en g with
    |none=>rfl
    |some d=>exact Aa (show(Gp.en g).isSome=v_ by rw[Z];rfl) hf
   cases hw:(SyP qs).want g with
   |none=>exact on _ (BD hq U Z hw) ((AcH qs g).trans hn)
   |some m=>
    simp only;cases hy:Sy.yet #[Y,(n,g)::r,don] m with
    |some o=>
     cases o with
     |some a=>exact on _ (KZ U Z (Mm hq h hy)) ((Mr _ _).trans hn)
     |none=>exact on _ (EL U m) hn
    |none=>
     erw[Sy.J9 hy,_,[g',e],_];simp only;rw[e];intro p O;rcases O with O|O
     ·rcases Ac.mp O with rfl|O
      ·exact oX hq e
      ·exact h p (.inl O)
     ·exact h p (.inr O)
structure Oc where
 (x dx px ls du dr df:o6)
nonrec def ofs (o:Oc):om (Str×V):= [("given_project",.ref o.px),("stack",.ref o.ls),("under_way",.ref o.du),("full_runs",.ref o.dr),("found",.ref o.df)]
nonrec def OMT:om Str:= ["go_through","enter","settle","runner","leave","go_on","answer_yet","begin_anew"]
def Pz (o:Oc):(ofs o).lookup ("given_project":Str)=u_ (.ref o.px):=rfl
def LH (o:Oc):(ofs o).lookup ("stack":Str)=u_ (.ref o.ls):=rfl
def Px (o:Oc):(ofs o).lookup ("under_way":Str)=u_ (.ref o.du):=rfl
def AcJ (o:Oc):(ofs o).lookup ("full_runs":Str)=u_ (.ref o.dr):=rfl
def LI (o:Oc):(ofs o).lookup ("found":Str)=u_ (.ref o.df):=rfl
def ZS (o:Oc):∀m∈OMT,(ofs o).lookup m=none:=by
 intro m hm;simp![OMT,uC,uA,uP] at hm;rcases hm with rfl|rfl|rfl|rfl|rfl|rfl|rfl|rfl<;>rfl
structure Kp (L:om o6)(H H':Hp):Prop where
 kept:∀b ob,H b=u_ ob->b∉L->H' b=u_ ob
 tk:Tk H H'
variable {L:om o6}{H H':Hp}
def Kp.of (s:ie H H'):Kp L H H':=[λb ob h _=>s b ob h:s.tk]
variable {H1 H2:Hp}
def Kp.trans (h:Kp L H H1)(k:Kp L H1 H2):Kp L H H2:=[λb ob e n=>k.kept b ob (h.kept b ob e n) n:h.tk.trans k.tk]
variable {p:o6}
def Kp.updD {xs ys:om (Key×V)}(h:H p=u_ (.dK xs))(O:p∈L):Kp L H (upd H p (.dK ys)):=⟨λb ob e n=>by have nb:b≠p:=(λz=>n (by rwa[z]));rwa[qm nb],Tk.updD h⟩
def WM {κ:Type}[DecidableEq κ](k j:κ):∀kvs:om (κ×V),iR (JK kvs k) j=if j=k then U_ else iR kvs j
 | []=>by show U_=_;split<;>rfl
 |p::r=>by
  by_cases c:p.1=k
  ·rw[E6 c,WM k j r];by_cases d:j=k
   ·rw[A6 d,A6 d]
   ·rw[A4 d,A4 d,QO (λz=>d (z.symm.trans c))]
  ·rw[E7 c];by_cases d:p.1=j
   ·rw[QZ d,A4 (λz=>c (d.trans z)),QZ d]
   ·rw[QO d,WM k j r,QO d]
variable {C:o6}
def jv.kp {x:o6}(h:jv C H x qs)(k:Kp L H H')(Z:∀p∈L,(∃xs,H p=u_ (.lst xs))∨(∃xs,H p=u_ (.dK xs))∨H p=U_):jv C H' x qs:=by
 erw[h,dx,d,o,vs,O,U,e3,e4];have n1:x∉L:=λz=>by rcases Z x z with⟨_,e⟩|⟨_,e⟩|e<;>rw[e] at O<;>cases O
 have n2:d∉L:=λz=>by rcases Z d z with⟨_,e⟩|⟨_,e⟩|e<;>rw[e] at U<;>cases U
 exact⟨dx,d,o,vs,k.kept _ _ O n1,k.kept _ _ U n2,e3,e4.mono k.tk⟩
structure OAt (CO CP:o6)(H:Hp)(o:Oc)(qs:om (Str×D)):Prop where
 e:H o.x=u_ (.ins CO o.dx (ofs o))
 p:jv CP H o.px qs
variable {CO CP:o6}
def OAt.kp {o:Oc}(h:OAt CO CP H o qs)(k:Kp L H H')(O:∀p∈L,(∃xs,H p=u_ (.lst xs))∨(∃xs,H p=u_ (.dK xs))∨H p=U_):OAt CO CP H' o qs:=by
 exists k.kept _ _ h.e (λz=>?_),h.p.kp k O;have U:=h.e;rcases O o.x z with⟨_,e⟩|⟨_,e⟩|e<;>rw[e] at U<;>cases U
nonrec def SF {qs:om (Str×D)}(S:Sy.Ss (SyP qs))(uk:om (Key×V)):Prop:=∀m:Str,(iR uk (Vj m)).isSome=decide (m∈S.stk.map (·.1))
nonrec def CB {qs:om (Str×D)}(H:Hp)(S:Sy.Ss (SyP qs))(fk:om (Key×V)):Prop:=∀(m:Str) (g:Gp),g0D m (qG qs m)=u_ g->
 (∀g':Gp,Sy.Ys S.don m=u_ g'->∃v,iR fk (Vj m)=u_ v/\Is H (Qp (g'.en.getD .non)) v)/\(Sy.Ys S.don m=U_->iR fk (Vj m)=U_)
variable {fk:om (Key×V)}
def CB.mono {S:Sy.Ss (SyP qs)}(h:CB H S fk)(t:Tk H H'):CB H' S fk:=λm g O=>⟨λg' e=>let⟨v,a,b⟩:=(h m g O).1 g' e;[v:a:b.mono t],(h m g O).2⟩
nonrec def Mf:oq (oq D)->D->Prop
 |some (u_ v),d=>d= .tup [.str "value",v]
 |some U_,d=>d= .tup [.str "lack"]
 |none,d=>∃k r,d= .tup (.str k::r)/\k≠"value"/\k≠"lack"
nonrec def nrg (d:D):Prop:=∃k r,d= .tup (.str k::r)/\(k="value"∨k="lack"∨k="fault"∨k="stuck")
nonrec def AbF (qs:om (Str×D))(don:om (Str×Gp))(m:Str):D:=match g0D m (qG qs m) with
 |none=>XW (qG qs m)
 |some _=>Qp (((Sy.Ys (Y:=SyP qs) don m).bind λg:Gp=>g.en).getD .non)
nonrec def AD {qs:om (Str×D)}(H:Hp)(S:Sy.Ss (SyP qs))(m:Str)(v:V):Prop:=match Sy.yet S m with
 |none=>v= .non
 |some o=>∃d,Is H d v/\Mf o d/\(m∉S.stk.map (·.1)->nrg d/\d=AbF qs S.don m)
inductive Mw (CO CP:Addr):Sp
 |mk (o:Oc)(m:Str)(qs:List (Str×D))(S:Sy.Ss (SyP qs))(uk fk:List (Key×V))(_:vs= [.ref o.x,.str m])(_:OAt CO CP H o qs)(_:QQ qs)(_:SGI S)(_:H o.du=u_ (.dK uk))(_:SF S uk)(_:H o.df=u_ (.dK fk))(_:CB H S fk)(_:↑fk<=100000)(_:(∀p∈S.don,(SyP qs).fin p.2=v_))(_:∀(v:V)(H':Hp)(fk':List (Key×V)),Kp [o.df] H H'->H' o.df=u_ (.dK fk')->CB H' S fk'->↑fk'<=↑fk+1->(Sy.yet S m=U_->↑fk'=↑fk)->AD H' S m v->Q v H')
inductive Df (CO:Addr):Sp
 |mk (x dx px:Addr)(_:vs= [.ref x,.ref px])(_:H x=u_ (.ins CO dx []))(_:∀(o:Oc)(H':Hp),o.x=x->o.dx=dx->o.px=px->(∀b ob,H b=u_ ob->b≠x->H' b=u_ ob)->Tk H H'->H o.ls=U_->H o.du=U_->H o.dr=U_->H o.df=U_-> [o.ls,o.du,o.dr,o.df].Nodup->H' x=u_ (.ins CO dx (ofs o))->H' o.ls=u_ (.lst [])->H' o.du=u_ (.dK [])->H' o.dr=u_ (.dK [])->H' o.df=u_ (.dK [])->Q .non H')
inductive IW:Sp
 |mk (x:_)(y:_)(_:vs= [x,y])(_:Q .non H)
def KJ (O:QQ qs)(h:g0D m (qG qs m)=U_):∃k,XW (qG qs m)= .tup k/\Mf (u_ (WZ (qG qs m))) (.tup k)/\nrg (.tup k):=by
 by_cases hm:m∈qs.map (·.1)
 ·erw[X4 O hm,hn,k,e,hd,h1,h2];rw[hd] at h⊢;unfold g0D at h;simp only at h;by_cases c:k="leaf"
  ·exists [.str "value",e],?_,1,[_:0:.inl rfl];unfold XW;simp only;exact A6 c
  ·rw[A4 c] at h;split at h<;>cases h
 ·rw[jh hm];exact[0:1:[_:0:.inr (.inl rfl)]]
def OT (O:QQ qs)(h:g0D m (qG qs m)=u_ g):XW (qG qs m)= .non:=by
 erw[X4 O ((Qg qs).gn m g h),hn,k,e,hd,h1,h2];rw[hd] at h⊢;unfold g0D at h;simp only at h;by_cases c:k="leaf"
 ·rw[A6 c] at h;cases h
 ·unfold XW;simp only;exact A4 c
def AbE (h:GI g)(hf:g.en.isSome=v_):Mf ((Yl g).map u_) (Qp (g.en.getD .non)):=by
 cases Z:g.en with
 |none=>rw[Z] at hf;cases hf
 |some d=>
  unfold Yl;rw[Z];show Mf ((xq d).map u_) (Qp d);rcases h.en d Z with⟨z,rfl⟩|⟨x,rfl,hx⟩|⟨z,rfl⟩
  ·have O:xq (flt z)=none:=by unfold xq flt;dsimp only;exact A4 ()
   have U:Qp (flt z)=flt z:=by unfold Qp flt;dsimp only;exact A4 ()
   rw[O,U];exact⟨"fault",[.str z],1,(),()⟩
  ·have O:xq (.tup [.str "said",x])=u_ x:=by unfold xq;dsimp only;exact A6 rfl
   have U:Qp (.tup [.str "said",x])= .tup [.str "value",x]:=by unfold Qp;dsimp only;exact A6 rfl
   rw[O,U];exact rfl
  ·have O:xq (.tup [.str "stuck",.str z])=none:=by unfold xq;dsimp only;exact A4 ()
   have U:Qp (.tup [.str "stuck",.str z])= .tup [.str "stuck",.str z]:=by unfold Qp;dsimp only;exact A4 ()
   rw[O,U];exact⟨"stuck",[.str z],1,(),()⟩
def SB (h:GI g)(U:g.en.isSome=v_):nrg (Qp (g.en.getD .non)):=by
 cases Z:g.en with
 |none=>rw[Z] at U;cases U
 |some d=>
  show nrg (Qp d);rcases h.en d Z with⟨z,rfl⟩|⟨x,rfl,hx⟩|⟨z,rfl⟩
  ·have O:Qp (flt z)=flt z:=by unfold Qp flt;dsimp only;exact A4 ()
   rw[O];exact[_:0:.inr (.inr (.inl rfl))]
  ·have O:Qp (.tup [.str "said",x])= .tup [.str "value",x]:=by unfold Qp;dsimp only;exact A6 rfl
   rw[O];exact[_:0:.inl rfl]
  ·have O:Qp (.tup [.str "stuck",.str z])= .tup [.str "stuck",.str z]:=by unfold Qp;dsimp only;exact A4 ()
   rw[O];exact[_:0:.inr (.inr (.inr rfl))]
section
variable {P:og}{w:oh}{K:o0}{mg:Str->oq o7}{base:o9}{a:Ad}{g:Ga}
def Lx:#[T,1,a.Y8,a.jg,["self","going"],IW]:=by
 exists 9,T.ky,XB,O
 erw[h,x,y,rfl,q];exists 3,%[|OJ]
 exact q
def Pw:#[T,1,a.yL,a.yQ,["self","project"],(Df a.qu)]:=by
 exists 9,T.iB,jw
 erw[h,x,dx,px,rfl,hx,q];have hs:=uw;exists 3,%[#[Qi,pv 1],#[Qi,#[QA,qh]],#[Qi,xi],#[Qi,xi]|#[Qi,xi]]
 exists 0,0,x,_,dx,0,hx,T.qF,T.Qh,()
 exists (sml rfl),λU h1=>?_;have n1:x≠U:=qo qk h1
 exists 5
 refine⟨0,x,_,dx,0,(qm n1).trans qk,T.qF,T.QG,by show 1<1000;decide,?_⟩
 intro Z h2;have n2:x≠Z:=qo qk h2
 exists 5
 refine⟨0,x,_,dx,0,(qm n2).trans qk,T.qF,T.QF,by show 2<1000;decide,?_⟩
 intro l3 h3;have n3:x≠l3:=qo qk h3
 exists 5
 refine⟨0,x,_,dx,0,(qm n3).trans qk,T.qF,T.yT,by show 3<1000;decide,?_⟩
 intro l4 h4;have n4:x≠l4:=qo qk h4
 exists 5
 refine⟨0,x,_,dx,0,(qm n4).trans qk,T.qF,T.QH,by show 4<1000;decide,?_⟩
 rw[qm n1.symm] at h1;have O:Z≠U:=λz=>by rw[z,qm n1.symm,qk] at h2;cases h2
 have k2:H Z=none:=by rwa[qm n2.symm,qm O,qm n2.symm] at h2
 have aa:l3≠Z:=λz=>by rw[z,qm n2.symm,qk] at h3;cases h3
 have ac:l3≠U:=λz=>by rw[z,qm n1.symm,qm O.symm,qm n1.symm,qk] at h3;cases h3
 have k3:H l3=none:=by rwa[qm n3.symm,qm aa,qm n3.symm,qm ac,qm n3.symm] at h3
 have ad:l4≠l3:=λz=>by rw[z,qm n3.symm,qk] at h4;cases h4
 have ae:l4≠Z:=λz=>by rw[z,qm n2.symm,qm aa.symm,qm n2.symm,qk] at h4;cases h4
 have af:l4≠U:=λz=>by rw[z,qm n1.symm,qm ac.symm,qm n1.symm,qm O.symm,qm n1.symm,qk] at h4;cases h4
 have k4:H l4=none:=by rwa[qm n4.symm,qm ad,qm n4.symm,qm ae,qm n4.symm,qm af,qm n4.symm] at h4
 have kp:∀b ob,H b=u_ ob->b≠x->(upd (upd (upd (upd (upd (upd (upd (upd (upd H x (.ins a.qu dx (iG "given_project" (V.ref px) []))) U (.lst [])) x (.ins a.qu dx (iG "stack" (V.ref U) (iG "given_project" (V.ref px) [])))) Z (.dK [])) x (.ins a.qu dx (iG "under_way" (V.ref Z) (iG "stack" (V.ref U) (iG "given_project" (V.ref px) []))))) l3 (.dK [])) x (.ins a.qu dx (iG "full_runs" (V.ref l3) (iG "under_way" (V.ref Z) (iG "stack" (V.ref U) (iG "given_project" (V.ref px) [])))))) l4 (.dK [])) x (.ins a.qu dx (iG "found" (V.ref l4) (iG "full_runs" (V.ref l3) (iG "under_way" (V.ref Z) (iG "stack" (V.ref U) (iG "given_project" (V.ref px) []))))))) b=u_ ob:=λb ob h nb=>by
  rwa[qm nb,qm (qo h k4),qm nb,qm (qo h k3),qm nb,qm (qo h k2),qm nb,qm (qo h h1),qm nb]
 refine q ⟨x,dx,px,U,Z,l3,l4⟩ _ rfl rfl rfl kp ?_ h1 k2 k3 k4 ?_ ?_ ?_ ?_ ?_ ?_
 ·exists 5
  refine[λb xs e=>kp b _ e (λz=>?_):λb xs e=>[xs:kp b _ e (λz=>?_)]:λb xs e=>[xs:kp b _ e (λz=>?_)]]<;>(rw[z,hx] at e;cases e)
 ·simp![U1,uC,uA,uP,Vf,V7,vO,and_true];exact[[O.symm:ac.symm:af.symm]:[aa.symm:ae.symm]:ad.symm]
 ·exact qk
 ·rw[qm n1.symm,qm af.symm,qm n1.symm,qm ac.symm,qm n1.symm,qm O.symm,qm n1.symm];exact qk
 ·rw[qm n2.symm,qm ae.symm,qm n2.symm,qm aa.symm,qm n2.symm];exact qk
 ·rw[qm n3.symm,qm ad.symm,qm n3.symm];exact qk
 ·rw[qm n4.symm];exact qk
def Ls:#[T,2,a.Yb,a.jy,["self","project"],(Df a.qu)]:=by
 have U:=#[Pw,T];exists 9,T.lG,X8,Z
 erw[h,x,dx,px,rfl,O,q];exists 3,%[|#[Qd,#[Qw,20,pv 0,T.qF,T.iB.h,U,Z.mono (),T.iB.b,.nil,qH,#v[pv 1],_,_,_]]]
 exact⟨0,x,dx,0,O,1,0,x,dx,px,1,O,q⟩
def DM:#[T,2,a.yH,a.yB,["self","name"],(Mw a.qu a.qQ)]:=by
 have yu:=#[Wq,T];have ZQ:=#[O6,T];exists 9,T.ii,yA
 erw[h,o,m,qs,S,uk,fk,rfl,hO,hq,hG,ac,hU,aa,hF,hl,Z,k];have hs:=uw;exists 3,%[#[qK,#[xF,#[kZ,Qs hr,pv 1,#[qT,5,pv 0,rfl]]],%[|#[qv,#[qB,#v[qp]]]],qx],#[qD,(2),yA.nd,#[qy,ZQ,T.lN,#v[#[Qw,#[qT,5,pv 0,rfl],T.YK,T.iH,yu,#v[pv 1]]]]],#[qK,#[qt,sZ,pv 2,Qe],%[|#[YO,#[qT,5,pv 0,rfl],pv 1,pv 2]],qx]|#[qv,#[Bg,7,Qs hr,#[qT,5,pv 0,rfl],pv 1,⟨1,1,1,1⟩]]]
 exists 0,0,o.x,_,o.dx,_,0,hO.e,T.qF,T.QF,Px o,o.du,0,mx.k (k:=Vj m) ac,0;rw[hU m];by_cases c:m∈S.stk.map (·.1)
 ·have ey:Sy.yet S m=u_ none:=by unfold Sy.yet;rw[A6 c]
  refine lh (A9 c) [(sml rfl):λt ht=>?_];have s1:=qi ht (.tup [V.str "ring"]);refine k _ _ fk (Kp.of s1) (s1 _ _ aa) (hF.mono s1.tk) (Hg _) (λ_=>rfl) ?_;unfold AD;rw[ey];exact⟨_,Is.new (ds:= [.str "ring"]) ⟨_,0,yU (),1⟩ ht,⟨"ring",[],1,(),()⟩,λz=>Aa c z⟩
 refine iN (ub c) ?_
 exists 0,o.x,_,o.dx,_,0,hO.e,T.qF,T.Qh,Pz o;erw[id hO.p,ad,dp,op,ah,hx,hd,hk,hv]
 exists o.px,ad,0,hx,ZK,0,o.px,m,qs,1,hO.p,λv h1 h2=>?_;have ae:Is H (qG qs m) v:=by
  by_cases cm:m∈qs.map (·.1)
  ·exact h1 cm
  ·rw[h2 cm,jh cm];exact rfl
 exists v,qG qs m,1,ae,?_,λu H1 s1 hu=>?_
 ·by_cases cm:m∈qs.map (·.1)
  ·erw[X4 hq cm,_,k,e,hd,_];exact .inr [k:e:hd]
  ·exact .inl (jh cm)
 have O:=s1 _ _ aa
 exists 0,1,0;cases hg:g0D m (qG qs m) with
 |none=>
  erw[KJ hq hg,l,e1,e2,e3];rw[e1] at hu;have af:u≠ .non:=zK hu (by intro z;cases z)
  have ey:Sy.yet S m=u_ (u_ (WZ (qG qs m))):=by have U:=hg;unfold Sy.yet;rw[A4 c,show(SyP qs).g0 m=_ from U];rfl
  refine lh (by simp[af]) ?_
  have kp:Kp [o.df] H (upd H1 o.df (.dK (lY fk (Vj m) u))):=(Kp.of s1).trans (Kp.updD O ue)
  exists 0,0,o.x,_,o.dx,_,0,s1 _ _ hO.e,T.qF,T.QH,LI o,0,o.df,0,BZ.k (k:=Vj m) O ()
  have ag:=hO.kp kp (by intro p hp;cases Ae.mp hp;exact .inr (.inl [_:aa]))
  exists 0,o.x,_,o.dx,_,0,ag.e,T.qF,T.QH,LI o,o.df,1,.inl [_:.inl qk],0,_,mx.k (k:=Vj m) qk;rw[X9,A6 rfl];refine k _ _ _ kp qk ?_ (yZ _ _ _) (λz=>by rw[ey] at z;cases z) ?_
  ·intro m' g' U;rw[X9,A4 (λz=>by injection z with z;rw[z,hg] at U;cases U)]
   exact(hF.mono kp.tk) m' g' U
  ·unfold AD;rw[ey];exact⟨_,(hu.mono (Tk.updD O)),e2,λ_=>⟨e3,by unfold AbF;rw[hg];exact e1.symm⟩⟩
 |some g=>
  rw[OT hq hg] at hu;cases(show u= .non from hu)
  refine iN (by simp) ?_
  exists 0,o.x,_,o.dx,_,0,s1 _ _ hO.e,T.qF,T.QH,LI o,o.df,1,.inl [_:.inl O],0,_,mx.k (k:=Vj m) O;refine k _ _ fk (Kp.of s1) O (hF.mono s1.tk) (Hg _) (λ_=>rfl) ?_;have ey:Sy.yet S m=(Sy.Ys S.don m).map λg=>(Yl g).map some:=by have U:=hg;unfold Sy.yet;rw[A4 c,show(SyP qs).g0 m=_ from U];rfl
  erw[hF m g hg,f1,f2];unfold AD;rw[ey];cases hd:Sy.Ys S.don m with
  |none=>
   rw[f2 hd];exact rfl
  |some g'=>
   erw[f1 g' hd,y,e1,e2];rw[e1];exact⟨_,e2.mono s1.tk,AbE (hG (m,g') (.inr (Sy.Zy hd))).1 (Z (m,g') (Sy.Zy hd)),λ_=>⟨SB (hG (m,g') (.inr (Sy.Zy hd))).1 (Z (m,g') (Sy.Zy hd)),by unfold AbF;rw[hg,hd];rfl⟩⟩
structure nh (g:Gc)(s:Gs)(p:Gp):Prop where
 n:g.n=p.n
 mb:s.mb=p.mb
 ra:s.ra=p.ra
 run:(s.run.map λq=>(q.1.rs,q.2))=p.run
 own:∀mc r,s.run=u_ (mc,r)->mc.own=g.n
 en:s.en=p.en.getD .non
nonrec def SV:oq (Mc×Rn)->om o6
 |none=> []
 |some (mc,_)=> [mc.x,mc.db,mc.dg]
nonrec def plc (g:Gc)(s:Gs):om o6:=g.x::SV s.run
def nh.none {g:Gc}{s:Gs}{p:Gp}(h:nh g s p)(e:p.run=U_):s.run=none:=by
 have:=h.run;rw[e] at this;cases O:s.run with
 |none=>rfl
 |some q=>rw[O] at this;cases this
def nh.some {g:Gc}{s:Gs}{p:Gp}(h:nh g s p){rs:om Rw}{r:Rn}(e:p.run=u_ (rs,r)):∃mc:Mc,s.run=u_ (mc,r)/\mc.rs=rs/\mc.own=g.n:=by
 have:=h.run;rw[e] at this;cases O:s.run with
 |none=>rw[O] at this;cases this
 |some q=>
  erw[q,mc,U];rw[O] at this;cases this;exact⟨mc,1,1,h.own mc U O⟩
variable {CM:o6}
def lZ.frame {g:Gc}{s:Gs}(h:lZ C CM H g s)(O:∀b∈plc g s,∀ob,H b=u_ ob->H' b=u_ ob)(t:Tk H H'):lZ C CM H' g s:=by
 erw[h,dx,fs,mv,av,rv,ev,e,f,i,j,k,l];exists dx,fs,mv,av,rv,ev,O _ ue _ e,f,i.mono t,j.mono t,?_,l.mono t;cases U:s.run with
 |none=>rwa[U] at k
 |some q=>
  erw[q,mc,r];have hp:plc g s= [g.x,mc.x,mc.db,mc.dg]:=by unfold plc SV;rw[U]
  rw[hp] at O;rw[U] at k;erw[k,k1,k2,dm,fm,Z,ru,tv,gv,em,aa,i1,i2,[bf,ib,jb],i4,i5,i6];exact⟨k1,k2,dm,fm,Z,ru,tv,gv,O _ (by simp) _ em,aa,i1.mono t,i2.mono t,⟨bf,O _ (by simp) _ ib,λz hz=>(jb z hz).mono t⟩,O _ (by simp) _ i4,i5.mono t,i6.mono t⟩
def lZ.there {g:Gc}{s:Gs}(h:lZ C CM H g s):∀b∈plc g s,∃ob,H b=u_ ob:=by
 erw[h,dx,fs,mv,av,rv,ev,e,f,i,j,k,l];intro b O;rcases Ac.mp O with rfl|O
 ·exact[_:e]
 ·cases U:s.run with
  |none=>rw[U] at O;cases O
  |some q=>
   erw[q,mc,r];rw[U] at O k;erw[k,k1,k2,dm,fm,Z,ru,tv,gv,em,aa,i1,i2,[bf,ib,jb],i4,i5,i6];simp![SV,uC,uA,uP] at O;rcases O with rfl|rfl|rfl
   ·exact[_:em]
   ·exact[_:ib]
   ·exact[_:i4]
def Iw {g:Gc}{d:D}{s s':Gs}{p:Gp}(b:Mj H g d s s')(h:nh g s p)(U:p.run=U_)(he:p.en=U_):nh g s' (mV p d)/\∀c∈plc g s',c=g.x∨H c=none:=by
 have hr:=h.none U;have Z:s.en= .non:=by rw[h.en,he];rfl
 have nil:s'.run=U_->∀c∈plc g s',c=g.x∨H c=none:=λe c O=>by
  unfold plc at O;rw[e] at O;rcases Ac.mp O with z|z
  ·exact .inl z
  ·cases z
 unfold mV;by_cases c:d= .non
 ·erw[b.lack c,b1,b2];rw[A6 (by rw[c];rfl)]
  exact⟨⟨h.n,b.mb.trans h.mb,b.ra.trans h.ra,(by show _=p.run;rw[b1,U];rfl),(λmc r e=>by rw[b1] at e;cases e),b2⟩,nil b1⟩
 ·rw[A4 (λz=>c (by cases d with|non=>rfl|_=>cases z))]
  cases hd:ya d with
  |none=>
   erw[b.rule c hd,b1,b2];exact⟨⟨h.n,b.mb.trans h.mb,b.ra.trans h.ra,(by show _=p.run;rw[b1,U];rfl),(λmc r e=>by rw[b1] at e;cases e),b2⟩,nil b1⟩
  |some rs=>
   erw[b.go rs hd,mc,c1,c2,c3,c4,c5,c6,c7];exists ⟨h.n,b.mb.trans h.mb,b.ra.trans h.ra,?_,λaa r e=>?_,?_⟩,λc O=>?_
   ·rw[c6];show u_ (mc.rs,R0 rs g.n)=u_ (rs,R0 rs p.n);rw[c4,h.n]
   ·rw[c6] at e;cases e;exact c5
   ·rw[c7,h.n,Z];show _=(mi (R0 rs p.n)).getD .non;unfold mi;split<;>rfl
   ·unfold plc at O;rw[c6] at O;simp![SV,uC,uA,uP] at O;rcases O with z|rfl|rfl|rfl
    ·exact .inl z
    ·exact .inr c1
    ·exact .inr c2
    ·exact .inr c3
nonrec def nU:oq (om Rw×Rn)->om D
 |none=> []
 |some (_,r)=>r.gs
nonrec def Xv (p:Gp):D:= .tup [.tup (p.ra++nU p.run),p.en.getD .non]
def BJ {g:Gc}{s:Gs}{p:Gp}(h:nh g s p):L5 s=Xv p:=by
 unfold L5 Xv;rw[h.ra,h.en];have e:Aas s.run=nU p.run:=by
  rw[<-h.run];cases s.run with
  |none=>rfl
  |some q=>rfl
 rw[e]
def L4 {p:Gp}(h:GI p):↑p.ra+↑(nU p.run)<=1000:=by
 have h1:=h.ra.2.2;cases O:p.run with
 |none=>show _+0<=1000;omega
 |some q=>
  erw[q,rs,r];have h2:=(h.run rs r O).2.1;have h3:=h2.gs.2.2;have h4:=h2.n;show _+↑r.gs<=1000;omega
inductive IZ (CO CP CG CM:Addr):Sp
 |mk (o:Oc)(m:Str)(qs:List (Str×D))(xs:List V)(uk:List (Key×V))(p:Gp)(_:vs= [.ref o.x,.str m])(_:OAt CO CP H o qs)(_:QQ qs)(_:H o.ls=u_ (.lst xs))(_:↑xs<=100000)(_:H o.du=u_ (.dK uk))(_:↑uk<=100000)(_:g0D m (qG qs m)=u_ p)(_:∀(g:Gc)(s:Gs)(H':Hp),Kp [o.ls,o.du] H H'->H' o.ls=u_ (.lst (xs++ [.ref g.x]))->H' o.du=u_ (.dK (lY uk (Vj m) (.bl v_)))->lZ CG CM H' g s->nh g s p->g.o=o.x->(∀b∈plc g s,H b=U_)->Q .non H')
inductive C6 (CO CP CG CM:Addr):Sp
 |mk (o:Oc)(qs:List (Str×D))(g:Gc)(s:Gs)(p:Gp)(rk fk:List (Key×V))(_:vs= [.ref o.x,.ref g.x])(_:OAt CO CP H o qs)(_:lZ CG CM H g s)(_:nh g s p)(_:GI p)(_:p.en.isSome=v_)(_:H o.dr=u_ (.dK rk))(_:↑rk<=100000)(_:H o.df=u_ (.dK fk))(_:↑fk<=100000)(_:o.dr≠o.df)(_:o.dr∉plc g s)(_:o.df∉plc g s)(_:∀(v1 v2:V)(H':Hp),Kp [o.dr,o.df] H H'->H' o.dr=u_ (.dK (lY rk (Vj g.n) v1))->Is H' (Xv p) v1->H' o.df=u_ (.dK (lY fk (Vj g.n) v2))->Is H' (Qp (p.en.getD .non)) v2->Q .non H')
def LC:#[C,12,a.jf,a.Y6,["self","name"],(IZ a.qu a.qQ a.qN a.qr)]:=by
 have yu:=#[Wq,T];have O:=#[LA,T,C];exists 9,T.iK,Xi
 erw[h,o,m,qs,xs,uk,p,rfl,hO,hq,U,ap,Z,aq,hp,k];have hs:=uw;exists 3,%[#[Qd,#[Y4,uJ,vh,vi,yF,#[qT,5,pv 0,rfl],#v[#[Za,T.M_Going,O,hr.mono (),T.m_Going,T.mD,qH,#v[pv 1,#[Qw,#[qT,5,pv 0,rfl],T.YK,T.iH,yu,#v[pv 1]],pv 0]]]]]|#[YO,#[qT,5,pv 0,rfl],pv 1,ju]]
 exists 0,o.x,_,o.dx,_,0,hO.e,T.qF,T.QG,LH o,.inl [1:_:SqL.of U]
 exists 0,0,o.x,_,o.dx,_,0,hO.e,T.qF,T.Qh,Pz o;erw[id hO.p,ak,dp,op,au,hx,hd,hk,hv]
 exists o.px,ak,0,hx,ZK,0,o.px,m,qs,1,hO.p,λsv h1 h2=>?_;have hm:m∈qs.map (·.1):=(Qg qs).gn m p hp;have af:=h1 hm;erw[X4 hq hm,hn,kk,e,al,g1,g2];rw[al] at af hp
 exists 0,λx dx aa ag nx=>?_;have s0:ie H (upd (upd H dx (.own x)) x (.ins a.qN dx [])):=λb o h=>by rwa[qm (qo h aa),qm (qo h ag)]
 have nox:o.x≠x:=qo hO.e aa
 exists x,dx,o.x,m,kk,sv,e,1,qk,af.mono s0.tk,hn,nox,⟨_,_,s0 _ _ hO.e,ZS o _ ()⟩,λH1 s1 am aw G1 b1 b2=>[1:?_]
 have ac:ie H H1:=λb ob h=>am b ob (s0 b ob h) (qo h aa);have rel:nh ⟨x,o.x,m⟩ s1 p/\∀c∈plc ⟨x,o.x,m⟩ s1,H c=none:=by
  unfold g0D at hp;simp only at hp;split at hp
  ·cases hp
  ·split at hp
   ·rename_i c
    cases hp;have e1:=b1 c;rw[e1]
    exists ⟨1,1,1,1,(λ_ _ z=>by cases z),1⟩,λc hc=>?_
    rcases Ac.mp hc with rfl|hc
    ·exact aa
    ·cases hc
   ·rename_i c
    cases hp;obtain⟨r1,r2⟩:=Iw (p:=⟨m,.non,[],U_,U_⟩) (b2 c) ⟨1,1,1,1,(λ_ _ z=>by cases z),1⟩ rfl rfl
    exists r1,λc hc=>?_;rcases r2 c hc with rfl|hc
    ·exact aa
    ·exact s0.free hc
 exists o.ls,xs,0,1,ac _ _ U,()
 have ah:Kp [o.ls,o.du] H1 (upd H1 o.ls (.lst (xs++ [.ref x]))):=⟨λb ob h n=>by rw[qm (λz=>n (by rw[z];exact ue))];exact h,jR.tk (p:=o.ls) (λb ob h n=>by rwa[qm n]) (ac _ _ U) qk⟩
 have n1:o.du≠o.ls:=λz=>by rw[z,U] at Z;cases Z
 have ad:upd H1 o.ls (.lst (xs++ [.ref x])) o.du=u_ (.dK uk):=by rw[qm n1];exact ac _ _ Z
 have n2:o.x≠o.ls:=λz=>by have:=hO.e;rw[z,U] at this;cases this
 have n3:o.x≠o.du:=λz=>by have:=hO.e;rw[z,Z] at this;cases this
 exists 0,o.x,_,o.dx,_,0,(by rw[qm n2];exact ac _ _ hO.e),T.qF,T.QF,Px o,0,o.du,0,BZ.k (k:=Vj m) ad ()
 have ao:=((Kp.of (L:= [o.ls,o.du]) ac).trans ah).trans (Kp.updD (ys:=lY uk (Vj m) (.bl v_)) ad (uc _ ue));refine k [x:o.x:m] s1 _ ao (by rw[qm n1.symm];exact qk) qk (G1.frame (λb hb ob h=>?_) ((ah.trans (Kp.updD (ys:=lY uk (Vj m) (.bl v_)) ad (uc _ ue)))).tk) rel.1 rfl rel.2
 have ae:=rel.2 b hb;have m1:b≠o.ls:=λz=>by rw[z,U] at ae;cases ae
 have m2:b≠o.du:=λz=>by rw[z,Z] at ae;cases ae
 rw[qm m2,qm m1];exact h
def DP:#[T,3,a.YR,a.YI,["self","going"],(C6 a.qu a.qQ a.qN a.qr)]:=by
 have O:=#[Pp,T];have U:=#[LG,T];have XU:=#[Lx,T];exists 9,T.iT,xp
 erw[h,o,qs,g,st,p,rk,fk,rfl,hO,hG,hR,hI,ae,ac,ay,af,aA,ag,nr,nf,k];have hs:=uw;exists 3,%[#[YO,#[qT,5,pv 0,rfl],#[qT,5,pv 1,rfl],#[QL,pv 1,T.qX,T.mE,O,hr.mono ()]],#[YO,#[qT,5,pv 0,rfl],#[qT,5,pv 1,rfl],#[qy,U,T.mR,#v[#[qT,5,pv 1,rfl]]]]|#[Qd,#[Qw,pv 0,T.qF,T.ky,XU,#v[pv 1]]]]
 erw[id hG,dx,fs,mv,av,rv,ev,e,f,i,j,aB,l];have aw:o.dr≠g.x:=λz=>nr (by rw[z];exact ue)
 have aC:o.df≠g.x:=λz=>nf (by rw[z];exact ue)
 have ah:o.x≠o.dr:=λz=>by have:=hO.e;rw[z,ac] at this;cases this
 have ak:o.x≠o.df:=λz=>by have:=hO.e;rw[z,af] at this;cases this
 have al:↑(Aas st.run)=↑(nU p.run):=by
  have:=BJ hR;unfold L5 Xv at this;simp![D.tup.injEq,Uh] at this;have:=this.1;rw[hR.ra] at this;rw[List.append_cancel_left this]
 exists 0,g.x,dx,fs,1,e,f.meth _ (),g,st,1,hG,(by rw[hR.ra,al];exact L4 hI),λv1 H1 s1 i1=>?_
 rw[BJ hR] at i1
 exists 0,o.x,_,o.dx,_,0,s1 _ _ hO.e,T.qF,T.yT,AcJ o,0,g.x,_,dx,fs,0,s1 _ _ e,T.qX,T.Yj,f.ZB,o.dr,0,BZ.k (k:=Vj g.n) (s1 _ _ ac) ()
 have ad:Kp [o.dr,o.df] H (upd H1 o.dr (.dK (lY rk (Vj g.n) v1))):=(Kp.of s1).trans (Kp.updD (s1 _ _ ac) ue);generalize Z:upd H1 o.dr (.dK (lY rk (Vj g.n) v1))=H2 at ad⊢;have am:H2 o.dr=u_ (.dK (lY rk (Vj g.n) v1)):=by rw[<-Z];exact qk
 have e2:H2 g.x=u_ (.ins a.qN dx fs):=by rw[<-Z,qm aw.symm];exact s1 _ _ e
 have ao:H2 o.x=u_ (.ins a.qu o.dx (ofs o)):=by rw[<-Z,qm ah];exact s1 _ _ hO.e
 have aa:H2 o.df=u_ (.dK fk):=by rw[<-Z,qm ag.symm];exact s1 _ _ af
 have i2:Is H2 (Xv p) v1:=i1.mono (by rw[<-Z];exact Tk.updD (s1 _ _ ac))
 have l2:Is H2 (p.en.getD .non) ev:=by rw[<-hR.en];exact l.mono ad.tk
 obtain⟨kk,ee,ap⟩:∃kk ee,p.en.getD .non= .tup [.str kk,ee]:=by
  cases aq:p.en with
  |none=>rw[aq] at ae;cases ae
  |some d=>
   rcases hI.en d aq with⟨z,rfl⟩|⟨x,rfl,_⟩|⟨z,rfl⟩
   ·exact[_:0]
   ·exact[_:0]
   ·exact[_:0]
 exists 0,g.x,_,dx,fs,0,e2,T.qX,T.Q8,f.f_end,ev,kk,ee,1,(by rwa[<-ap]),λv2 H3 s3 i3=>?_
 rw[<-ap] at i3
 exists 0,o.x,_,o.dx,_,0,s3 _ _ ao,T.qF,T.QH,LI o,0,g.x,_,dx,fs,0,s3 _ _ e2,T.qX,T.Yj,f.ZB,o.df,0,BZ.k (k:=Vj g.n) (s3 _ _ aa) ()
 have au:Tk H3 (upd H3 o.df (.dK (lY fk (Vj g.n) v2))):=Tk.updD (s3 _ _ aa);have ax:Kp [o.dr,o.df] H (upd H3 o.df (.dK (lY fk (Vj g.n) v2))):=(ad.trans (Kp.of s3)).trans (Kp.updD (s3 _ _ aa) (uc _ ue))
 exists 0,o.x,o.dx,0,(by rw[qm ak];exact s3 _ _ ao),ZS o _ (),0,_,0
 exact k v1 v2 _ ax (by rw[qm ag];exact s3 _ _ am) (i2.mono (s3.tk.trans au)) qk (i3.mono au)
end
variable {v:V}
def Ec:VJ ("looked_up":Str) [(("by_name":Str),v)]=none:=by rfl
def AdF (k:Str):inV (V.str k) [V.str "has",V.str "names"]=BA k:=by
 have h:=JT k ["has","names"];refine h.trans ?_;unfold BA;rw[<-Bool.decide_or,uZ];simp
section
variable {C CM CO:o6}{H:Hp}{g:Gc}{s:Gs}{p:Gp}{Q:VK}{E:XK}
def Nv (G:lZ C CM H g s)(R:nh g s p)(I:GI p)(O:p.en=U_)(U:Q5 p=u_ m)(k:∀kd v H',ie H H'->BA kd=Vh->Is H' (.tup [.str kd,.str m]) v->Q v H'):ze C CM [.ref g.x] H Q E:=by
 erw[kt I O U,hn,h];exists g,s,1,G;rcases h with⟨h1,h2⟩|⟨rs,r,h1,h2⟩
 ·exact .inl ⟨R.none h1,m,by rw[R.mb,h2],λv H' s' i=>k _ v H' s' () i⟩
 ·erw[R.some h1,mc,Z,e2,e3];exact .inr ⟨mc,r,_,Z,h2,λv i=>k _ v H (ie.refl _) () i⟩
def II (G:lZ C CM H g s)(R:nh g s p)(I:GI p)(O:p.en=U_)(U:Q5 p=U_)(k:∀rs r kd z v,p.run=u_ (rs,r)->r.th= .tup [.str "asks",.tup [.str kd,.str z]]->BA kd=v_->isT (.str z)=v_->m6 qs p=QT p (xR qs kd z)->Is H (.tup [.str kd,.str z]) v->Q v H):ze C CM [.ref g.x] H Q E:=by
 erw[ZY (qs:=qs) I O U,rs,r,kd,z,h1,h2,h3,h4,h5];erw[R.some h1,mc,Z,e2,e3];exact⟨g,s,1,G,.inr ⟨mc,r,_,Z,h2,λv i=>k rs r kd z v h1 h2 h3 h4 h5 i⟩⟩
def CN (G:lZ C CM H g s)(R:nh g s p)(I:GI p)(Z:p.en=U_){d:D}{v:V}(hv:Is H d v)(U:∀rs r,p.run=u_ (rs,r)->∃u q,r.th= .tup [.str "asks",.tup [.str u,q]]/\Cw u d=v_)(aa:g.o≠g.x)(ho:∃dx fs,H g.o=u_ (.ins CO dx fs)/\fs.lookup ("runner":Str)=U_)
  (k:∀H' s',Gw g s.run H H'->lZ C CM H' g s'->nh g s' (QT p d)->(∀b∈plc g s',b∈plc g s∨H b=U_)->Q .non H'):XX C CM CO [.ref g.x,v] H Q E:=by
 refine⟨g,s,v,d,1,G,by rw[R.n];exact I.n,hv,aa,ho,?_⟩
 cases O:p.run with
 |none=>
  erw[I.no O Z,z,hz,_];have hr:=R.none O;refine .inl ⟨hr,z,by rw[R.mb,hz],λH' s' w G' b=>?_⟩
  obtain⟨r1,r2⟩:=Iw (p:=⟨p.n,p.mb,[.tup [.tup [.str "rule",p.mb],d]],U_,U_⟩) b ⟨R.n,R.mb,(by show _= [D.tup [.tup [.str "rule",p.mb],d]];rw[hz]),(by show s.run.map _=U_;rw[hr];rfl),R.own,(by show s.en= .non;rw[R.en,Z];rfl)⟩ rfl rfl
  refine k H' s' w G' ?_ λc hc=>?_
  ·have:QT p d=mV ⟨p.n,p.mb,[.tup [.tup [.str "rule",p.mb],d]],U_,U_⟩ d:=by
    unfold QT;rw[O];show mV ⟨p.n,p.mb,_,U_,p.en⟩ d=_;rw[Z]
   rwa[this]
  ·rcases r2 c hc with rfl|h
   ·exact .inl ue
   ·exact .inr h
 |some q=>
  erw[q,rs,r];erw[R.some O,mc,e1,e2,e3];erw[I.run rs r O,k1,k2,k3,k4];erw[U rs r O,u,q,h1,h2];subst e2;refine .inr ⟨mc,r,u,q,e1,e3,k1,k2,h1,h2,λH' w G'=>?_⟩;have ee:QT p d={p with run:=u_ (mc.rs,mS mc.rs p.n r d),en:=mi (mS mc.rs p.n r d)}:=by unfold QT;rw[O]
  refine k H' _ w G' ?_ ?_
  ·rw[ee,e3,R.n];unfold oK mi;by_cases c:QP (mS mc.rs p.n r d).th=v_
   ·rw[A6 c,A6 c];exact⟨R.n,R.mb,R.ra,1,(λac r' z=>by cases z;exact e3),(by show s.en= .non;rw[R.en,Z];rfl)⟩
   ·rw[A4 c,A4 c];exact⟨R.n,R.mb,R.ra,1,(λac r' z=>by cases z;exact e3),1⟩
  ·intro b hb;left;unfold plc at hb⊢;rw[e1];unfold oK at hb;split at hb<;>exact hb
end
nonrec def LO (o:Oc):om o6:= [o.ls,o.du,o.dr,o.df]
structure Bs (CO CP:o6)(H0:Hp)(o:Oc)(qs:om (Str×D)):Prop where
 oa:OAt CO CP H0 o qs
 ls:∃xs,H0 o.ls=u_ (.lst xs)
 du:∃xs,H0 o.du=u_ (.dK xs)
 dr:∃xs,H0 o.dr=u_ (.dK xs)
 df:∃xs,H0 o.df=u_ (.dK xs)
 nd:(LO o).Nodup
 q:QQ qs
section
variable {CO CP:o6}{H0 H H':Hp}{o:Oc}{qs:om (Str×D)}
def Bs.at (b:Bs CO CP H0 o qs)(k:Kp (LO o) H0 H):OAt CO CP H o qs:=b.oa.kp k (by
 intro p O;simp![LO,uC,uA,uP] at O;rcases O with rfl|rfl|rfl|rfl
 ·exact .inl b.ls
 ·exact .inr (.inl b.du)
 ·exact .inr (.inl b.dr)
 ·exact .inr (.inl b.df))
def Bs.new (b:Bs CO CP H0 o qs){c:o6}(h:H0 c=U_):c≠o.x/\c≠o.ls/\c≠o.du/\c≠o.dr/\c≠o.df:=by
 erw[b.ls,_,h1];erw[b.du,_,h2];erw[b.dr,_,h3];erw[b.df,_,h4];exact⟨(qo b.oa.e h).symm,(qo h1 h).symm,(qo h2 h).symm,(qo h3 h).symm,(qo h4 h).symm⟩
def Bs.nlo (b:Bs CO CP H0 o qs){c:o6}(h:H0 c=U_):c∉LO o:=by
 erw[b.new h,_,h1,h2,h3,h4];simp![LO,uC,uA,uP,Vf];exact⟨h1,h2,h3,h4⟩
def Ap (b:Bs CO CP H0 o qs)(k:Kp (LO o) H0 H)(h:∀c ob,H c=u_ ob->c∉o.df::L->H' c=u_ ob)(t:Tk H H')(O:∀c∈L,H0 c=U_):Kp (LO o) H0 H':=⟨λc ob e n=>h c ob (k.kept c ob e n) (λz=>by
 rcases Ac.mp z with rfl|z
 ·exact n (by simp[LO])
 ·rw[O c z] at e;cases e),k.tk.trans t⟩
end
section
variable {qs:om (Str×D)}{n:Str}{p:Gp}{r don:om (Str×Gp)}
def PH (U:p.en=U_)(Z:Q5 p=U_):Sy.nxt #[Y,(n,p)::r,don]=[(n,m6 qs p)::r:don]:=by
 have hf:(SyP qs).fin p=false:=by show p.en.isSome=Vh;rw[U];rfl
 have O:(SyP qs).want p=none:=Z;unfold Sy.nxt;simp only;rw[hf,A4 ua,O]
 rfl
def AaU (U:p.en=U_)(Z:Q5 p=u_ m){a:oq D}(hy:Sy.yet #[Y,(n,p)::r,don] m=u_ (u_ a)):Sy.nxt #[Y,(n,p)::r,don]=[(n,QT p (a.getD .non))::r:don]:=by
 have hf:(SyP qs).fin p=false:=by show p.en.isSome=Vh;rw[U];rfl
 have O:(SyP qs).want p=u_ m:=Z;unfold Sy.nxt;simp only;rw[hf,A4 ua,O];simp only;rw[hy]
 rfl
def PD (U:p.en=U_)(Z:Q5 p=u_ m)(hy:Sy.yet #[Y,(n,p)::r,don] m=u_ U_):Sy.nxt #[Y,(n,p)::r,don]=[(n,m8 p m)::r:don]:=by
 have hf:(SyP qs).fin p=false:=by show p.en.isSome=Vh;rw[U];rfl
 have O:(SyP qs).want p=u_ m:=Z;unfold Sy.nxt;simp only;rw[hf,A4 ua,O];simp only;rw[hy]
 rfl
def LJ (Z:p.en=U_)(hw:Q5 p=u_ m)(U:Sy.yet #[Y,(n,p)::r,don] m=U_):∃p',g0D m (qG qs m)=u_ p'/\Sy.nxt #[Y,(n,p)::r,don]=[(m,p')::(n,p)::r:don]:=by
 have hf:(SyP qs).fin p=false:=by show p.en.isSome=Vh;rw[Z];rfl
 have O:(SyP qs).want p=u_ m:=hw;erw[Sy.J9 U,_,[p',e],_];exists p',e;unfold Sy.nxt;simp only;rw[hf,A4 ua,O];simp only;rw[U];simp only;rw[e]
def PF {d:D}(O:p.en=u_ d):Sy.nxt #[Y,(n,p)::r,don]=[r:don++ [(n,p)]]:=by
 have U:(SyP qs).fin p=true:=by show p.en.isSome=v_;rw[O];rfl
 unfold Sy.nxt;simp only;rw[U,A6 rfl]
 rfl
end
def Cv {d:D}(h:Jk d):Cw "thing" d=true:=by
 unfold Cw;rcases h with rfl|h
 ·rfl
 ·cases hn:XG d with
  |true=>rfl
  |false=>
   rw[A4 ua,A6 h,A4 ()]
   rfl
structure Rnd {qs:om (Str×D)}(CG CM:o6)(H0 H H1:Hp)(o:Oc)(S:Sy.Ss (SyP qs))(L0:om o6)(g:Gc)(s1:Gs)(n:Str)(p1:Gp)(r:om (Str×Gp))(fk1:om (Key×V))(top:Nat):Prop where
 st:∃j,#[Y,(n,p1)::r,S.don]=Sy.nx S j
 len:↑fk1+Sy.mu #[Y,(n,p1)::r,S.don]<=top
 kp:∀b ob,H b=u_ ob->b∉o.df::L0->H1 b=u_ ob
 tk:Tk H H1
 df:H1 o.df=u_ (.dK fk1)
 fd:CB H1 S fk1
 go:lZ CG CM H1 g s1
 rel:nh g s1 p1
 pl:∀b∈plc g s1,b∈L0∨H b=U_/\H0 b=U_
 gi:SGI #[Y,(n,p1)::r,S.don]
inductive Aaj (CO CP CG CM:Addr):Sp
 |mk (H0:Hp)(o:Oc)(qs:List (Str×D))(g:Gc)(s:Gs)(n:Str)(p:Gp)(r don:List (Str×Gp))(uk fk:List (Key×V))(top:Nat)(_:vs= [.ref o.x,.ref g.x])(_:Bs CO CP H0 o qs)(_:Kp (LO o) H0 H)(_:H o.du=u_ (.dK uk))(_:SF #[Y,(n,p)::r,don] uk)(_:(∀q∈don,q.2.en.isSome=v_))(_:top<=100000)(_:g.o=o.x)(_:(∀b∈plc g s,H0 b=U_))(_:Rnd CG CM H0 H H o #[Y,(n,p)::r,don] (plc g s) g s n p r fk top)(_:∀(v:V)(H':Hp)(s':Gs)(p':Gp)(fk':List (Key×V)),Rnd CG CM H0 H H' o #[Y,(n,p)::r,don] (plc g s) g s' n p' r fk' top->((v= .non/\p'.en.isSome=v_)∨∃m,v= .str m/\p'.en=U_/\Q5 p'=u_ m/\Sy.yet #[Y,(n,p')::r,don] m=U_)->Q v H')
def Rnd.more {qs:om (Str×D)}{CG CM CO CP:o6}{H0 H H1 H2 H3:Hp}{o:Oc}{S:Sy.Ss (SyP qs)}{L0:om o6}{g:Gc}{s1 s3:Gs}{n:Str}{p1 p3:Gp}{r:om (Str×Gp)}{fk1 U:om (Key×V)}{top:Nat}(b:Bs CO CP H0 o qs)(k0:Kp (LO o) H0 H)(hL:∀b∈L0,H0 b=U_)(h:Rnd CG CM H0 H H1 o S L0 g s1 n p1 r fk1 top)(k2:Kp [o.df] H1 H2)(f2:H2 o.df=u_ (.dK U))(d2:CB H2 S U)(l2:↑U<=↑fk1+1)
  (ac:∀b ob,H2 b=u_ ob->b∉plc g s1->H3 b=u_ ob) (t3:Tk H2 H3) (G3:lZ CG CM H3 g s3) (R3:nh g s3 p3) (ae:∀b∈plc g s3,b∈plc g s1∨H2 b=U_) (e:Sy.nxt #[Y,(n,p1)::r,S.don]=[(n,p3)::r:S.don]):
  Rnd CG CM H0 H H3 o S L0 g s3 n p3 r U top/\Sy.mu #[Y,(n,p3)::r,S.don]<Sy.mu #[Y,(n,p1)::r,S.don]:=by
 have ad:=Sy.nxt_mu (Qg qs) (S:=#[Y,(n,p1)::r,S.don]) (by intro z;cases z)
 rw[e] at ad;have af:∀b∈plc g s1,H0 b=none:=λb hb=>(h.pl b hb).elim (hL b) (·.2);have nf:o.df∉plc g s1:=λz=>(b.new (af _ z)).2.2.2.2 rfl;have ag:∀b ob,H1 b=u_ ob->b∉o.df::plc g s1->H3 b=u_ ob:=λc ob q z=>ac c ob (k2.kept c ob q (λy=>z (by rw[Ae.mp y];exact ue))) (λy=>z (uc _ y))
 refine⟨⟨?_,by have:=h.len;omega,λc ob q z=>?_,(h.tk.trans k2.tk).trans t3,ac _ _ f2 nf,d2.mono t3,G3,R3,λc Z=>?_,?_⟩,ad⟩
 ·erw[h.st,j,hj];exact⟨j+1,by show _=Sy.nxt (Sy.nx S j);rw[<-hj,e]⟩
 ·refine ag c ob (h.kp c ob q z) λy=>?_;rcases Ac.mp y with rfl|y
  ·exact z ue
  ·rcases h.pl c y with y|⟨y,_⟩
   ·exact z (uc _ y)
   ·rw[q] at y;cases y
 ·rcases ae c Z with Z|Z
  ·exact h.pl c Z
  ·have O:H1 c=none:=by
    cases hq:H1 c with
    |none=>rfl
    |some ob=>
     by_cases y:c=o.df
     ·rw[y,f2] at Z;cases Z
     ·rw[k2.kept c ob hq (λz=>y (Ae.mp z))] at Z;cases Z
   by_cases c0:c∈L0
   ·exact .inl c0
   ·right;have aa:H c=none:=by
     cases hq:H c with
     |none=>rfl
     |some ob=>
      by_cases y:c=o.df
      ·rw[y,h.df] at O;cases O
      ·rw[h.kp c ob hq (λz=>by rcases Ac.mp z with z|z;exact y z;exact c0 z)] at O;cases O
    exists aa;cases hq:H0 c with
    |none=>rfl
    |some ob=>
     by_cases y:c∈LO o
     ·have:=Ap b k0 h.kp h.tk hL;simp![LO,uC,uA,uP] at y;have keep:∀x,(∃xs,H0 x=u_ (.lst xs))∨(∃xs,H0 x=u_ (.dK xs))->H1 x≠none:=λx hx hn=>by
       rcases hx with⟨xs,hx⟩|⟨xs,hx⟩
       ·erw[this.tk.lst x xs hx,ys,hy];rw[hy] at hn;cases hn
       ·erw[this.tk.dct x xs hx,ys,hy];rw[hy] at hn;cases hn
      rcases y with rfl|rfl|rfl|rfl
      ·exact Aa O (keep _ (.inl b.ls))
      ·exact Aa O (keep _ (.inr b.du))
      ·exact Aa O (keep _ (.inr b.dr))
      ·exact Aa O (keep _ (.inr b.df))
     ·rw[k0.kept c ob hq y] at aa;cases aa
 ·have:=Ea b.q h.gi;rwa[e] at this
section
variable {P:og}{w:oh}{K:o0}{mg:Str->oq o7}{base:o9}{a:Ad}{g:Ga}
def AaR:#[C,11,a.Y7,a.jj,["self","going"],(Aaj a.qu a.qQ a.qN a.qr)]:=by
 have WX:=#[DN,T];have Ju:=#[Lz,T,C];have xZ:=#[DZ,T];have Qc:=#[DM,T];exists 9,T.lc,yo
 erw[h,H0,o,qs,Z,st,n,p,r,don,uk,fk,top,rfl,hB,hK,aK,hU,ap,aX,aq,hL,h0,k];have hs:=uw;exists 3,%[#[ji,#[qt,YA,#[qT,5,pv 1,rfl],Qe],%[#[qD,(2),yo.nd,#[QL,pv 1,T.qX,T.mh,WX,hr.mono ()]],#[qK,#[qt,8,QU,#[qJ,qI,pv 2,ql],#[qB,#v[qp,qp]],#[w]],%[#[Qd,#[Qw,pv 1,T.qX,T.iZ,Ju,#v[#[Qw,#[qT,5,pv 0,rfl],T.YK,T.iS,xZ,#v[pv 2]]]]]|sW],qx],#[qD,(3),yo.nd,#[Qw,pv 0,T.qF,T.ii,Qc,#v[#[qJ,qI,pv 2,ql]]]],#[qK,#[qt,YA,pv 3,Qe],%[|#[qv,#[qJ,qI,pv 2,ql]]],qx]|#[qK,#[qt,Qk,#[qJ,qI,pv 3,ql],qp],%[|#[Qd,#[Qw,pv 1,T.qX,T.iZ,Ju,#v[#[qJ,qI,pv 3,ql]]]]],%[|#[qK,#[qt,Qk,#[qJ,qI,pv 3,ql],qp],%[|#[Qd,#[Qw,pv 1,T.qX,T.iZ,Ju,#v[Qe]]]],%[|#[Qi,8,pv 1,#[qB,#v[qp,#[qJ,qI,pv 2,ql]]],rfl]]]]]]]|#[qv,Qe]]
 let J_:Nat->L2.St->Hp->Prop:=λmm σ H1=>∃(s1:Gs) (p1:Gp) (fk1:om (Key×V)) (u3 u4:oq V),σ= [u_ (.ref o.x),u_ (.ref Z.x),u3,u4]/\mm=Sy.mu #[Y,(n,p1)::r,don]/\Rnd a.qN a.qr H0 H H1 o #[Y,(n,p)::r,don] (plc Z st) Z s1 n p1 r fk1 top
 exists J_,⟨_,st,p,fk,U_,U_,1,1,h0⟩;rintro mm σ H1 ⟨s1,p1,fk1,u3,u4,rfl,rfl,O⟩;have aL:=Ap hB hK O.kp O.tk hL;have aa:=hB.at aL;have au:∀b∈plc Z s1,H0 b=none:=λb hb=>(O.pl b hb).elim (hL b) (·.2);erw[O.gi (n,p1) (.inl ue),hI,aZ];have hI:GI p1:=hI;have aw:H1 o.du=u_ (.dK uk):=O.kp _ _ aK (λz=>by
  rcases Ac.mp z with z|z
  ·have:=hB.nd;simp[LO] at this;exact this.2.1.2 z
  ·exact(hB.new (hL _ z)).2.2.1 rfl)
 erw[id O.go,dx,fs,mv,av,rv,ev,e,f,i,j,a1,l];have a2:↑fs<1000:=by have:=f.len;omega
 exists 0,Z.x,_,dx,fs,0,e,T.qX,T.Q8,f.f_end,1,0;cases he:p1.en with
 |some d=>
  have l':Is H1 d ev:=by have:=l;rwa[O.rel.en,he] at this
  have aM:d≠ .non:=by rcases hI.en d he with⟨z,rfl⟩|⟨x,rfl,_⟩|⟨z,rfl⟩<;>(intro z;cases z)
  refine iN (ub (zK l' aM)) ?_;exact k _ H1 s1 p1 fk1 O (.inl ⟨1,by rw[he];rfl⟩)
 |none=>
  have l':Is H1 .non ev:=by have:=l;rwa[O.rel.en,he] at this
  cases(show ev= .non from l')
  refine lh (A9 rfl) ?_
  exists λσ' H'=>∃m',m'<Sy.mu #[Y,(n,p1)::r,don]/\J_ m' σ' H',λ_ _ h=>h;exists 8,B1,b1;have ax:Z.o≠Z.x:=by rw[aq];exact(hB.new (hL _ ue)).1.symm
  have ak:∀H2:Hp,(∀b ob,H1 b=u_ ob->b∉o.df::plc Z s1->H2 b=u_ ob)->∃dx fs,H2 Z.o=u_ (.ins a.qu dx fs)/\fs.lookup ("runner":Str)=none:=λH2 h2=>⟨_,_,(by rw[aq];exact h2 _ _ aa.e (λz=>by
   rcases Ac.mp z with z|z
   ·have:=aa.e;rw[z,O.df] at this;cases this
   ·exact(hB.new (au _ z)).1 rfl)),ZS o _ ()⟩
  cases hw:Q5 p1 with
  |none=>
   exists 0,Z.x,dx,fs,1,e,f.meth _ ()
   refine II (E:=E0) (qs:=qs) O.go O.rel hI he hw λrs rr kd z v ay al ac hz aA hv=>b1 _ _ ?_;exists 8,B2,b2;erw[id hv,q,ws,rfl,hq,w1,r1,rfl,[rfl,aN],w2,r2,rfl,[rfl,aB],h3];cases(show r2= [] from h3)
   exists 0,q,_,_,0,1,SqT.of hq,1,(sml rfl),λt ht=>?_;have s2:=qi ht (.tup [V.str "has",V.str "names"])
   exists t,0,.inr (SqT.of qk),1,1,0;refine lh ((AdF kd).trans ac) ?_;erw[id aa.p,aO,dp,op,a3,hx,hd,hk,a4];have a5:↑z<=300:=by
    have:=yl hz;simp![iO,Qz,uu,uR] at this;exact this.1
   erw[KH hB.q z ac,a6,aP];generalize a7:upd H1 t (.tup [V.str "has",V.str "names"])=H2 at s2⊢;have fin:∀(u:V) (H3:Hp),ie H2 H3->Is H3 (xR qs kd z) u->XX a.qN a.qr a.qu [.ref Z.x,u] H3 (λ_ H4=>∃m',m'<Sy.mu #[Y,(n,p1)::r,don]/\J_ m' [u_ (.ref o.x),u_ (.ref Z.x),u_ (.ref q),u4] H4) E0:=λu H3 s3 hu=>by
    have U:=s2.trans s3;refine CN (O.go.same U) O.rel hI he hu (λaQ r' e'=>?_) ax (ak H3 λb ob h _=>U b ob h) λH4 s4 w4 G4 R4 aR=>?_
    ·rw[ay] at e';cases e';exact⟨kd,_,al,aP⟩
    ·rw[<-aA] at R4;have kq:∀b ob,H3 b=u_ ob->b∉plc Z s1->H4 b=u_ ob:=λb ob h n=>w4.kept b ob h (λy=>n (by rw[y];exact ue)) (λmc r' y=>by
      unfold plc at n;rw[y] at n;simp![SV,uC,uA,uP,Vf] at n;exact[n.2.1:n.2.2.1:n.2.2.2])
     erw[O.more hB hK hL (Kp.of U) (U _ _ O.df) (O.fd.mono U.tk) (Hg _) kq w4.tk G4 R4 aR (PH he hw),m1,m2];exact⟨_,m2,s4,_,fk1,_,0,1,m1⟩
   exists 0,Z.x,dx,fs,1,s2 _ _ e,f.meth _ ()
   exists 0,o.x,_,o.dx,_,0,s2 _ _ aa.e,T.qF,T.Qh,Pz o
   exists o.px,aO,0,s2 _ _ hx,Ec,0,o.px,q,kd,z,qs,1,aa.p.same s2,hB.q,s2 _ _ hq,()
   have aC:kd="has"∨kd≠"has"/\kd="names":=by
    unfold BA at ac;by_cases c:kd="has"
    ·exact .inl c
    ·rw[ub c,rO] at ac;exact .inr [c:um ac]
   rcases aC with c|⟨c',c⟩
   ·refine .inl [c:fin _ H2 (ie.refl _) ?_];unfold xR;rw[A6 c];exact yU (by split<;>decide)
   ·refine .inr [c:λu H3 s3 hu=>fin u H3 s3 ?_];unfold xR;rwa[A4 c']
  |some m=>
   erw[kt hI he hw,a8,al]
   exists 0,Z.x,dx,fs,1,e,f.meth _ ()
   refine Nv (E:=E0) O.go O.rel hI he hw λkd v H2 s2 ac hv=>b1 _ _ ?_;exists 8,B2,b2;erw[id hv,q,ws,rfl,hq,w1,r1,rfl,[rfl,aN],w2,r2,rfl,[rfl,aB],h3];cases(show r2= [] from h3)
   exists 0,q,_,_,0,1,SqT.of hq,1,(sml rfl),λt ht=>?_;have s3:=qi ht (.tup [V.str "has",V.str "names"])
   exists t,0,.inr (SqT.of qk),1,1,0;refine iN ((AdF kd).trans ac) (b2 _ _ ?_);exists 8,B3,b3;generalize upd H2 t (.tup [V.str "has",V.str "names"])=H3 at s3⊢;have U:=s2.trans s3;have aD:=s3 _ _ hq;have aE:SGI #[Y,(n,p1)::r,don]:=O.gi
   exists 0,o.x,o.dx,0,U _ _ aa.e,ZS o _ ()
   exists 0,q,_,_,0,1,SqT.of aD,1,o,m,qs,#[Y,(n,p1)::r,don],uk,fk1,1,[U _ _ aa.e:aa.p.same U],hB.q,aE,U _ _ aw,hU,U _ _ O.df,O.fd.mono U.tk,(by have:=O.len;omega),ap,λu H4 am k4 f4 d4 l4 aS y4=>?_
   have ad:Kp [o.df] H1 H4:=(Kp.of U).trans k4;have aF:H4 q=u_ (.tup [V.str kd,V.str m]):=k4.tk.tup _ _ aD;have aT:o.df∉plc Z s1:=λz=>(hB.new (au _ z)).2.2.2.2 rfl;have G4:lZ a.qN a.qr H4 Z s1:=O.go.frame (λb hb ob h=>ad.kept b ob h (λz=>aT (by rwa[<-Ae.mp z]))) ad.tk
   erw[id G4,ao,ae,a9,ba,bb,bc,e4,af,i4,j4,aG,bd];refine b3 _ _ ?_;exists 8,B4,b4
   exists 0,1,0;unfold AD at y4;cases hy:Sy.yet #[Y,(n,p1)::r,don] m with
   |none=>
    rw[hy] at y4;cases(show u= .non from y4)
    refine lh (A9 rfl) ⟨0,q,_,_,0,1,SqT.of aF,1,?_⟩;refine k _ H4 s1 p1 am ⟨O.st,(by rw[aS hy];exact O.len),λb ob h z=>ad.kept b ob (O.kp b ob h z) (λy=>z (by rw[Ae.mp y];exact ue)),O.tk.trans ad.tk,f4,d4,G4,O.rel,O.pl,O.gi⟩ (.inr ⟨m,1,he,hw,hy⟩)
   |some oa=>
    rw[hy] at y4;erw[y4,d,hd,ha,_];have sh:∃kk rr,d= .tup (.str kk::rr):=by
     cases oa with
     |none=>erw[ha,kk,rr,h,_];exact[kk:rr:h]
     |some x=>cases x with
      |none=>exact[_:_:ha]
      |some y=>exact[_:_:ha]
    erw[sh,kk,rr,rfl];erw[id hd,qa,wa,rfl,ag,w1,r1,rfl,[rfl,aY],h3];refine iN (ub (λz=>by cases z)) (b4 _ _ ?_)
    exists 0,qa,_,_,0,1,SqT.of ag,Qn (j:=0) rfl,1,0;have fin:∀(dd:D) (u:V),Is H4 dd u->Jk dd->Sy.nxt #[Y,(n,p1)::r,don]=⟨(n,QT p1 dd)::r,don⟩->XX a.qN a.qr a.qu [.ref Z.x,u] H4 (λ_ H5=>∃m',m'<Sy.mu #[Y,(n,p1)::r,don]/\J_ m' [u_ (.ref o.x),u_ (.ref Z.x),u_ (.ref q),u_ (.ref qa)] H5) E0:=λdd u hu hok ah=>by
     refine CN G4 O.rel hI he hu (λaQ r' e'=>?_) ax (ak H4 λb ob h n=>ad.kept b ob h (λz=>n (by rw[Ae.mp z];exact ue))) λH5 s5 w5 G5 R5 aU=>?_
     ·rcases al with⟨h1,_⟩|⟨rs,rr,h1,h2⟩
      ·rw[h1] at e';cases e'
      ·rw[h1] at e';cases e';exact⟨"thing",_,h2,Cv hok⟩
     ·have kq:∀b ob,H4 b=u_ ob->b∉plc Z s1->H5 b=u_ ob:=λb ob h n=>w5.kept b ob h (λy=>n (by rw[y];exact ue)) (λmc r' y=>by
       unfold plc at n;rw[y] at n;simp![SV,uC,uA,uP,Vf] at n;exact[n.2.1:n.2.2.1:n.2.2.2])
      erw[O.more hB hK hL ad f4 d4 l4 kq w5.tk G5 R5 aU ah,m1,m2];exact⟨_,m2,s5,_,am,_,0,1,m1⟩
    cases oa with
    |some x=>
     have hok:=Mm hB.q aE hy;have ah:=AaU he hw hy;cases x with
     |some y=>
      cases(show D.tup (.str kk::rr)= .tup [.str "value",y] from ha)
      erw[h3,w5,r5,rfl,h5,h6];cases(show r5= [] from h6)
      refine lh (A9 rfl) ?_;exact⟨0,Z.x,ao,ae,1,e4,af.meth _ (),0,qa,_,_,0,1,SqT.of ag,1,fin y w5 h5 hok ah⟩
     |none=>
      cases(show D.tup (.str kk::rr)= .tup [.str "lack"] from ha)
      refine iN () ?_
      exists 0,qa,_,_,0,1,SqT.of ag,Qn (j:=0) rfl,1,0;refine lh (A9 rfl) ?_;exact⟨0,Z.x,ao,ae,1,e4,af.meth _ (),fin .non .non rfl hok ah⟩
    |none=>
     erw[ha,k2,r2,e5,c1,c2];cases e5;refine iN (ub (λz=>c1 (V.str.inj z))) ?_
     exists 0,qa,_,_,0,1,SqT.of ag,Qn (j:=0) rfl,1,0;refine iN (ub (λz=>c2 (V.str.inj z))) ?_
     exists 0,q,_,_,0,1,SqT.of aF,1,(sml rfl),λt5 aH=>?_;have s5:=qi aH (.tup [V.str "stuck",V.str m]);have aI:↑ae<1000:=by have:=af.len;omega
     exists 0,Z.x,_,ao,ae,1,s5 _ _ e4,T.qX,T.Q8,aI;have aV:=Is.new (H:=H4) (ds:= [.str "stuck",.str m]) (p:=t5) ⟨_,0,yU (),_,0,[1:aB],1⟩ aH
     erw[kY (C:=a.qN) (CM:=a.qr) (g:=Z) (s:={s1 with en:= .tup [.str "stuck",.str m]}) (s5 _ _ e4) (af.set_end (u:= .ref t5)) (i4.mono s5.tk) (j4.mono s5.tk) (aG.same s5) aV,g1,g2]
     have aJ:nh Z {s1 with en:= .tup [.str "stuck",.str m]} (m8 p1 m):=⟨O.rel.n,O.rel.mb,O.rel.ra,O.rel.run,O.rel.own,1⟩
     have aW:Kp [o.df] H1 (upd H4 t5 (.tup [V.str "stuck",V.str m])):=ad.trans (Kp.of s5);obtain⟨m1,m2⟩:=O.more hB hK hL aW (s5 _ _ f4) (d4.mono s5.tk) l4 (λb ob h n=>g2.kept b ob h (λy=>n (by rw[y];exact ue))) g2.tk g1 aJ (λb hb=> .inl hb) (PD he hw hy)
     exact⟨_,m2,_,_,am,_,0,1,m1⟩
nonrec def x9 (CG CM:o6)(H:Hp)(ox:o6):om (Gc×Gs)->om (Str×Gp)->Prop
 | [],[]=>True
 |q::t,p::l=>lZ CG CM H q.1 q.2/\nh q.1 q.2 p.2/\q.1.o=ox/\x9 CG CM H ox t l
 |_,_=>False
nonrec def OL:om (Gc×Gs)->om o6
 | []=> []
 |q::t=>plc q.1 q.2++OL t
nonrec def Sep:om (Gc×Gs)->Prop
 | []=>True
 |q::t=>(∀b∈plc q.1 q.2,b∉OL t)/\Sep t
def x9.frame {CG CM ox:o6}{H H':Hp}:∀{st:om (Gc×Gs)}{l:om (Str×Gp)},x9 CG CM H ox st l->(∀b∈OL st,∀ob,H b=u_ ob->H' b=u_ ob)->Tk H H'->x9 CG CM H' ox st l
 | [],[],_,_,_=>trivial
 | [],_::_,h,_,_=>h.elim
 |_::_,[],h,_,_=>h.elim
 |q::t,p::l,⟨h1,h2,h3,h4⟩,hk,tk=>⟨h1.frame (λb O=>hk b (vn _ O)) tk,h2,h3,x9.frame h4 (λb O=>hk b (uM _ O)) tk⟩
def x9.there {CG CM ox:o6}{H:Hp}:∀{st:om (Gc×Gs)}{l:om (Str×Gp)},x9 CG CM H ox st l->∀b∈OL st,∃ob,H b=u_ ob
 | [],[],_=>λb O=>by cases O
 | [],_::_,h=>h.elim
 |_::_,[],h=>h.elim
 |q::t,p::l,⟨h1,h2,h3,h4⟩=>λb O=>by
  rcases Af.mp O with O|O
  ·exact h1.there b O
  ·exact x9.there h4 b O
def x9.len {CG CM ox:o6}{H:Hp}:∀{st:om (Gc×Gs)}{l:om (Str×Gp)},x9 CG CM H ox st l->↑st=↑l
 | [],[],_=>rfl
 | [],_::_,h=>h.elim
 |_::_,[],h=>h.elim
 |q::t,p::l,⟨h1,h2,h3,h4⟩=>by rw[uj,uj,x9.len h4]
def Bu {Y:Sy}:∀l:om (Str×Y.G),↑l<=Sy.lfts l
 | []=>ug _
 |(_,g)::r=>by
  have:=Bu r;show ↑r+1<=Y.lft g+1+Sy.lfts r;omega
def AcO (O:QQ qs)(n:Str):Sy.mu (Sy.S0 (SyP qs) n)<=20000:=by
 have U:=O.2.2;have Z:∀S:Sy.Ss (SyP qs),↑(Sy.rest S)<=60:=λS=>by
  have h1:↑(Sy.rest S)<=(qs.map (·.1)).length:=vP _ _;rw[u9] at h1;omega
 unfold Sy.mu;have h2:=Z (Sy.S0 (SyP qs) n);have h3:(SyP qs).M=302:=rfl;rw[h3];have h4:Sy.lfts (Sy.S0 (SyP qs) n).stk<=303:=by
  unfold Sy.S0;cases hg:(SyP qs).g0 n with
  |none=>exact uG _
  |some g=>
   have:=(Qg qs).l0 n g hg;show(SyP qs).lft g+1+0<=303;have h3:(SyP qs).M=302:=rfl;omega
 omega
structure OI {qs:om (Str×D)}(CG CM:o6)(H0 H:Hp)(o:Oc)(n0:Str)(S:Sy.Ss (SyP qs))(st:om (Gc×Gs))(uk rk fk:om (Key×V)):Prop where
 kp:Kp (LO o) H0 H
 nx:∃j,S=Sy.nx (Sy.S0 (SyP qs) n0) j
 ls:H o.ls=u_ (.lst (st.reverse.map λq=>V.ref q.1.x))
 du:H o.du=u_ (.dK uk)
 uo:SF S uk
 ul:↑uk+Sy.mu S<=20001
 dr:H o.dr=u_ (.dK rk)
 rks:rk.map (·.1)=S.don.map λp=>Vj p.1
 rv:L2.IsL H (S.don.map λp=>Xv p.2) (rk.map (·.2))
 rl:↑S.don+Sy.mu S<=20001
 df:H o.df=u_ (.dK fk)
 fd:CB H S fk
 fl:↑fk+Sy.mu S<=20001
 stk:x9 CG CM H o.x st S.stk
 new:∀b∈OL st,H0 b=U_
 sep:Sep st
 gi:SGI S
 fin:∀q∈S.don,(Gp.en q.2).isSome=v_
 nd:(S.stk.map (·.1)++S.don.map (·.1)).Nodup
def SH (n:Str)(j:Nat):((Sy.nx (Sy.S0 (SyP qs) n) j).stk.map (·.1)++(Sy.nx (Sy.S0 (SyP qs) n) j).don.map (·.1)).Nodup:=by
 cases O:(SyP qs).g0 n with
 |some g=>exact(Sy.nx_ok (Qg qs) (Sy.S0_ok O) j).nd
 |none=>
  have e:Sy.nx (Sy.S0 (SyP qs) n) j=⟨[],[]⟩:=by
   have U:Sy.S0 (SyP qs) n=⟨[],[]⟩:=by unfold Sy.S0;rw[O]
   rw[U]
   induction j with
   |zero=>rfl
   |succ j Z=>show Sy.nxt _=_;rw[Z];rfl
  rw[e];exact vO
inductive NN (CO CP:Addr):Sp
 |mk (o:Oc)(qs:List (Str×D))(n:Str)(_:vs= [.ref o.x,.str n])(_:Bs CO CP H o qs)(_:H o.ls=u_ (.lst []))(_:H o.du=u_ (.dK []))(_:H o.dr=u_ (.dK []))(_:H o.df=u_ (.dK []))(_:∀(H':Hp)(rk uk fk:List (Key×V))(don:List (Str×Gp))(j:Nat),H' o.du=u_ (.dK uk)->SF #[Y,[],don] uk->H' o.df=u_ (.dK fk)->CB H' #[Y,[],don] fk->↑fk<=20001->SGI #[Y,[],don]->Kp (LO o) H H'->Sy.nx (Sy.S0 (SyP qs) n) j=⟨[],don⟩->H' o.dr=u_ (.dK rk)->(rk.map (·.1)=don.map λp=>Vj p.1)->L2.IsL H' (don.map λp=>Xv p.2) (rk.map (·.2))->(∀p∈don,GI p.2/\p.2.en.isSome=v_)->↑don<=20001->Q .non H')
def qad {α:Type}{xs:om α}{x:α}:atI (xs++ [x]) (-1)=u_ x:=by
 unfold atI ixN;have O:↑(xs++ [x])=↑xs+1:=by simp
 rw[A4 (),A6 ()]
 show(xs++ [x])[(-1+(↑(xs++ [x]):Int)).toNat]? =u_ x;rw[show(-1+(↑(xs++ [x]):Int)).toNat=↑xs by omega]
 simp
def MQ {Y:Sy}(S:Sy.Ss Y)(i:Nat):∀j,Sy.nx S (i+j)=Sy.nx (Sy.nx S i) j
 |0=>rfl
 |j+1=>by show Sy.nxt (Sy.nx S (i+j))=Sy.nxt (Sy.nx (Sy.nx S i) j);rw[MQ S i j]
def AaW {qs:om (Str×D)}(S:Sy.Ss (SyP qs)):∀j,Sy.mu (Sy.nx S j)<=Sy.mu S
 |0=>ug _
 |j+1=>by
  have h:=AaW S j;show Sy.mu (Sy.nxt (Sy.nx S j))<=_;by_cases c:(Sy.nx S j).stk= []
  ·have e:Sy.nxt (Sy.nx S j)=Sy.nx S j:=by unfold Sy.nxt;rw[c]
   rwa[e]
  ·have:=Sy.nxt_mu (Qg qs) c;omega
def OV:#[C,13,a.yM,a.yI,["self","name"],(NN a.qu a.qQ)]:=by
 have Qc:=#[DM,T];have ja:=#[LC,T,C];have X2:=#[AaR,T,C];have Xz:=#[DP,T];exists 9,T.iM,QV
 erw[h,o,qs,n,rfl,hB,bD,bg,bE,bF,k];have hs:=uw;have hO:=hB.oa;exists 3,%[#[qK,#[qt,YA,#[Qw,pv 0,T.qF,T.ii,Qc,#v[pv 1]],Qe],%[|#[Qd,#[Qw,pv 0,T.qF,T.iK,ja,#v[pv 1]]]],qx]|#[ji,#[Bb,3,#[qT,5,pv 0,rfl],(λ_=>rfl)],%[#[qD,(2),QV.nd,#[qJ,QN,#[qT,5,pv 0,rfl],#[AaD,6,Mo,ql]]],#[qD,(3),QV.nd,#[Qw,pv 0,T.qF,T.lc,X2,#v[pv 2]]]|#[qK,#[qt,YA,pv 3,Qe],%[#[Qd,#[MJ,9,uJ,PySem.F.slot_list_pop,PySem.F.type_list_pop,MT,#[qT,5,pv 0,rfl],_,_]],#[Qd,#[Ln,7,#[qT,5,pv 0,rfl],#[qT,5,pv 2,rfl],⟨1,1,1,1⟩]]|#[Qd,#[Qw,pv 0,T.qF,T.iT,Xz,#v[pv 2]]]],%[|#[Qd,#[Qw,pv 0,T.qF,T.iK,ja,#v[pv 3]]]]]]]]
 have bG:=AcO hB.q n;exists 8,N,hN;have bH:∀(H1:Hp) (S:Sy.Ss (SyP qs)) (st:om (Gc×Gs)) (uk rk fk:om (Key×V)),OI a.qN a.qr H H1 o n S st uk rk fk->N [u_ (.ref o.x),u_ (.str n),U_,U_] H1:=by
  intro H1 S st uk rk fk h1;refine hN _ _ ?_
  let J_:Nat->L2.St->Hp->Prop:=λmm σ H2=>∃(S:Sy.Ss (SyP qs)) (st:om (Gc×Gs)) (uk rk fk:om (Key×V)) (u3 u4:oq V),σ= [u_ (.ref o.x),u_ (.str n),u3,u4]/\mm=Sy.mu S/\OI a.qN a.qr H H2 o n S st uk rk fk
  exists J_,⟨_,S,st,uk,rk,fk,U_,U_,1,1,h1⟩;clear h1 bg bE bF bD;rintro mm σ H2 ⟨S,st,uk,rk,fk,u3,u4,rfl,rfl,Z⟩;have bh:=hB.at Z.kp
  exists 0,o.x,_,o.dx,_,0,bh.e,T.qF,T.QG,LH o,_,.inl [_:SqL.of Z.ls:1];obtain⟨(stk:om (Str×Gp)),(don:om (Str×Gp))⟩:=S;have ax:x9 a.qN a.qr H2 o.x st stk:=Z.stk;cases st with
  |nil=>
   cases stk with
   |cons p l=>exact ax.elim
   |nil=>
    refine iN rfl ?_;erw[Z.nx,j,hj];exact k H2 rk uk fk don j Z.du Z.uo Z.df Z.fd (by have:=Z.fl;omega) Z.gi Z.kp hj.symm Z.dr Z.rks Z.rv (λp hp=>[(Z.gi p (.inr hp)).1:Z.fin p hp]) (by have:=Z.rl;have e:↑(#[Y,[],don].don)=↑don:=rfl;omega)
  |cons q t=>
   erw[q,gc,gs];cases stk with
   |nil=>exact ax.elim
   |cons p l=>
    erw[p,O,p];erw[ax,hG,bo,bI,hT];have hG:lZ a.qN a.qr H2 gc gs:=hG;have bo:nh gc gs p:=bo;have am:H2 o.ls=u_ (.lst ((t.reverse.map λq=>V.ref q.1.x)++ [V.ref gc.x])):=by
     have:=Z.ls;rwa[V8,uh] at this
    refine lh (by rw[V8,uh];show(!((Fy _ t.reverse)++ [V.ref gc.x]).isEmpty)=v_;simp) ?_
    exists λσ' H'=>∃m',m'<Sy.mu #[Y,(O,p)::l,don]/\J_ m' σ' H',λ_ _ h=>h;exists 8,B1,b1
    exists 0,o.x,_,o.dx,_,0,bh.e,T.qF,T.QG,LH o,0,o.ls,_,_,0,1,SqL.of am,qad,b1 _ _ ?_;exists 8,B2,b2;have ao:∀b∈plc gc gs,H b=none:=λb U=>Z.new b (vn _ U);have ac:∀b∈OL t,H b=none:=λb U=>Z.new b (uM _ U);have bJ:∃j,#[Y,(O,p)::l,don]=Sy.nx #[Y,(O,p)::l,don] j:=[(0):1]
    exists 0,o.x,o.dx,0,bh.e,ZS o _ (),0,H,o,qs,gc,gs,O,p,l,don,uk,fk,(20001),1,hB,Z.kp,Z.du,Z.uo,Z.fin,(),bI,ao,⟨bJ,Z.fl,λ_ _ h _=>h,Tk.refl _,Z.df,Z.fd,hG,bo,λb U=> .inl U,Z.gi⟩,λv H3 ak p3 ad hR hv=>?_
    have aW:Sy.mu #[Y,(O,p3)::l,don]<=Sy.mu #[Y,(O,p)::l,don]:=by
     erw[hR.st,j,hj];have hj:#[Y,(O,p3)::l,don]=Sy.nx #[Y,(O,p)::l,don] j:=hj;rw[hj];exact AaW _ _
    have bK:∃j,#[Y,(O,p3)::l,don]=Sy.nx (Sy.S0 (SyP qs) n) j:=by
     erw[hR.st,j,hj];erw[Z.nx,i,hi];have hj:#[Y,(O,p3)::l,don]=Sy.nx #[Y,(O,p)::l,don] j:=hj;exact⟨i+j,by rwa[MQ,<-hi]⟩
    have ap:Kp (LO o) H H3:=Ap hB Z.kp hR.kp hR.tk ao;have ay:=hB.at ap;have aq:∀b∈plc gc ak,H b=none:=λb U=>(hR.pl b U).elim (ao b) (·.2);have out:∀b,b∈LO o->b≠o.df->b∉o.df::plc gc gs:=λb U hn z=>by
     rcases Ac.mp z with z|z
     ·exact hn z
     ·exact hB.nlo (ao b z) U
    have bZ:o.ls≠o.du/\o.ls≠o.dr/\o.ls≠o.df/\o.du≠o.dr/\o.du≠o.df/\o.dr≠o.df:=by
     have h:=hB.nd;simp![LO,U1,uC,uA,uP,Vf,vO,and_true,V7] at h;exact⟨h.1.1,h.1.2.1,h.1.2.2,h.2.1.1,h.2.1.2,h.2.2⟩
    erw[bZ,d1,d2,d3,d4,d5,d6];have af:=hR.kp _ _ am (out _ (by simp[LO]) d3)
    have aA:=hR.kp _ _ Z.du (out _ (by simp[LO]) d5)
    have aB:=hR.kp _ _ Z.dr (out _ (by simp[LO]) d6)
    have bp:x9 a.qN a.qr H3 o.x t l:=hT.frame (λb U ob h=>hR.kp b ob h (λz=>by
     rcases Ac.mp z with z|z
     ·exact(hB.new (ac b U)).2.2.2.2 z
     ·exact Z.sep.1 b z U)) hR.tk
    have bq:∀b∈plc gc ak,b∉OL t:=λb U z=>by
     rcases hR.pl b U with U|⟨U,_⟩
     ·exact Z.sep.1 b U z
     ·erw[hT.there b z,ob,e];rw[e] at U;cases U
    have b3:GI p3:=(hR.gi (O,p3) (.inl ue)).1;have aX:p3.n=O:=(hR.gi (O,p3) (.inl ue)).2;have bL:=Z.ul;have bM:=hR.len;have b4:=Z.rl;have cm:↑don+Sy.mu #[Y,(O,p)::l,don]<=20001:=b4;have b5:↑ad+Sy.mu #[Y,(O,p3)::l,don]<=20001:=bM;have aC:=Sy.nxt_mu (Qg qs) (S:=#[Y,(O,p3)::l,don]) (by intro z;cases z)
    have cn:↑rk=↑don:=by
     have:=Ab VC Z.rks;rwa[u9,u9] at this
    have aD:H3 o.df=u_ (.dK ad):=hR.df;have aO:lZ a.qN a.qr H3 gc ak:=hR.go;have ag:nh gc ak p3:=hR.rel;have aY:CB H3 #[Y,(O,p3)::l,don] ad:=hR.fd;have aZ:SGI #[Y,(O,p3)::l,don]:=hR.gi;erw[bK,i3,aP];refine b2 _ _ ?_
    exists 0,1,0;rcases hv with⟨rfl,au⟩|⟨m,rfl,au,hw,hy⟩
    ·
     refine lh (A9 rfl) ?_;exists 8,C1,c1;obtain⟨d,hd⟩:∃d,p3.en=u_ d:=by
      cases h:p3.en with
      |none=>rw[h] at au;cases au
      |some d=>exact[d:1]
     have ae:=PF (qs:=qs) (n:=O) (r:=l) (don:=don) hd
     exists 0,o.x,_,o.dx,_,0,ay.e,T.qF,T.QG,LH o,.inl [1:_:SqL.of af]
     exists o.ls,_,V.ref gc.x,1,1,af,by simp
     rw[List.dropLast_concat];have aa:Kp [o.ls,o.du] H3 (upd H3 o.ls (.lst (t.reverse.map λq=>V.ref q.1.x))):=⟨λb ob h n=>by rw[qm (λz=>n (by rw[z];exact ue))];exact h,jR.tk (p:=o.ls) (λb ob h n=>by rwa[qm n]) af qk⟩
     obtain⟨H4,aE⟩:∃H4,H4=upd H3 o.ls (.lst (t.reverse.map λq=>V.ref q.1.x)):=⟨0⟩;rw[<-aE] at aa⊢;refine c1 _ _ ?_;exists 8,C2,c2;have e4:H4 o.x=u_ (.ins a.qu o.dx (ofs o)):=by rw[aE,qm (λz=>by have:=ay.e;rw[z,af] at this;cases this)];exact ay.e
     have aF:H4 o.ls=u_ (.lst (t.reverse.map λq=>V.ref q.1.x)):=by rw[aE];exact qk
     have al:H4 o.du=u_ (.dK uk):=by rwa[aE,qm d1.symm]
     have bN:∀b,H b=U_->b≠o.ls:=λb U=>(hB.new U).2.1;have b6:lZ a.qN a.qr H4 gc ak:=aO.frame (λb U ob h=>by rwa[aE,qm (bN b (aq b U))]) aa.tk
     erw[id b6,b7,b8,cp,cq,cr,cs,b9,f4,_];have aG:(iR uk (Vj gc.n)).isSome=true:=by
      rw[ag.n,aX];exact(Z.uo O).trans (A9 ue)
     obtain⟨uv,ca⟩:∃uv,iR uk (Vj gc.n)=u_ uv:=by
      cases h:iR uk (Vj gc.n) with
      |none=>rw[h] at aG;cases aG
      |some uv=>exact[uv:1]
     exists 0,o.x,_,o.dx,_,0,e4,T.qF,T.QF,Px o,o.du,1,.inl [_:.inl al],0,gc.x,_,b7,b8,0,b9,T.qX,T.Yj,f4.ZB,uk,Vj gc.n,uv,al,1,ca;have ah:Kp [o.ls,o.du] H3 (upd H4 o.du (.dK (JK uk (Vj gc.n)))):=aa.trans (Kp.updD al (uc _ ue));obtain⟨H5,bt⟩:∃H5,H5=upd H4 o.du (.dK (JK uk (Vj gc.n))):=⟨0⟩;rw[<-bt] at ah⊢;refine c2 _ _ ?_;have bO:H5 o.du=u_ (.dK (JK uk (Vj gc.n))):=by rw[bt];exact qk
     have bP:H5 o.ls=u_ (.lst (t.reverse.map λq=>V.ref q.1.x)):=by rwa[bt,qm d1]
     have aH:∀b,H b=U_->b∉ [o.ls,o.du]:=λb U z=>by
      simp![uC,uA,uP] at z;rcases z with z|z
      ·exact(hB.new U).2.1 z
      ·exact(hB.new U).2.2.1 z
     have cb:lZ a.qN a.qr H5 gc ak:=aO.frame (λb U ob h=>ah.kept b ob h (aH b (aq b U))) ah.tk;have bQ:H5 o.dr=u_ (.dK rk):=ah.kept _ _ aB (by simp![uC,uA,uP,Vf];exact[d2.symm:d4.symm])
     have bR:H5 o.df=u_ (.dK ad):=ah.kept _ _ aD (by simp![uC,uA,uP,Vf];exact[d3.symm:d5.symm])
     have aQ:∀b,b∉LO o->b∉ [o.ls,o.du]:=λb U z=>U (by simp![LO,uC,uA,uP] at z⊢;rcases z with z|z;exact .inl z;exact .inr (.inl z))
     have bu:Kp (LO o) H H5:=[λb ob h n=>ah.kept b ob (ap.kept b ob h n) (aQ b n):ap.tk.trans ah.tk];have bS:=hB.at bu
     exists 0,o.x,o.dx,0,bS.e,ZS o _ (),0,o,qs,gc,ak,p3,rk,ad,1,bS,cb,ag,b3,au,bQ,(),bR,(),d6,λz=>(hB.new (aq _ z)).2.2.2.1 rfl,λz=>(hB.new (aq _ z)).2.2.2.2 rfl,λv1 v2 H6 aw aI i6 ba j6=>?_
     have bT:∀b,b∉LO o->b∉ [o.dr,o.df]:=λb U z=>U (by simp![LO,uC,uA,uP] at z⊢;rcases z with z|z;exact .inr (.inr (.inl z));exact .inr (.inr (.inr z)))
     have cc:∀b,H b=U_->b∉ [o.dr,o.df]:=λb U=>bT b (hB.nlo U);have cd:Kp (LO o) H H6:=[λb ob h n=>aw.kept b ob (bu.kept b ob h n) (bT b n):bu.tk.trans aw.tk];have aJ:Tk H3 H6:=ah.tk.trans aw.tk;have bv:gc.n=O:=ag.n.trans aX;have aR:(#[Y,(O,p3)::l,don].stk.map (·.1)++#[Y,(O,p3)::l,don].don.map (·.1)).Nodup:=by
      rw[aP];exact SH n i3
     have bb:(O::(l.map (·.1)++don.map (·.1))).Nodup:=aR;have aK:O∉don.map (·.1):=λz=>(List.nodup_cons.mp bb).1 (uM _ z);have bw:O∉l.map (·.1):=λz=>(List.nodup_cons.mp bb).1 (vn _ z);have ce:iR rk (Vj O)=none:=by
      cases h:iR rk (Vj O) with
      |none=>rfl
      |some v=>
       have h1:=NA h;rw[Z.rks] at h1;erw[Ag.mp h1,q,hq,e];injection e with e
       exact Aa (Ag.mpr [q:hq:e]) aK
     rw[bv] at aI ba;rw[Kj v1 ce] at aI;have bU:↑uk+Sy.mu #[Y,(O,p)::l,don]<=20001:=bL;have cu:=BO uk (Vj gc.n:Key);have cf:=yZ ad (Vj O:Key) v2;have a1:SF #[Y,l,don++ [(O,p3)]] (JK uk (Vj gc.n)):=by
      intro m';rw[WM];by_cases c:m'=O
      ·rw[A6 (by rw[c,bv]),c]
       exact(ub bw).symm
      ·rw[A4 (by rw[bv];exact λz=>c (UB z))]
       refine(Z.uo m').trans ?_;rw[uZ];exact⟨λz=>by rcases Ac.mp z with z|z;exact Aa z c;exact z,λz=>uc _ z⟩
     have a2:(rk++ [((Vj O:Key),v1)]).map (·.1)=(don++ [(O,p3)]).map λq:Str×Gp=>(Vj q.1:Key):=by
      rw[uh,uh];have:=Z.rks;rw[this]
      rfl
     have a3:L2.IsL H6 ((don++ [(O,p3)]).map λq:Str×Gp=>Xv q.2) ((rk++ [((Vj O:Key),v1)]).map (·.2)):=by
      rw[uh,uh];exact((Z.rv.mono (hR.tk.trans aJ))).append (L2.IsL.one i6)
     have a4:↑(don++ [(O,p3)])=↑don+1:=by rw[uq];rfl
     have a5:∀(m':Str) (g':Gp),g0D m' (qG qs m')=u_ g'->(∀g2:Gp,Sy.Ys (Y:=SyP qs) (don++ [(O,p3)]) m'=u_ g2->∃v,iR (lY ad (Vj O) v2) (Vj m')=u_ v/\Is H6 (Qp (g2.en.getD .non)) v)/\(Sy.Ys (Y:=SyP qs) (don++ [(O,p3)]) m'=U_->iR (lY ad (Vj O) v2) (Vj m')=U_):=by
      intro m' g' cg;rw[X9];by_cases c:m'=O
      ·have aL:Sy.Ys (Y:=SyP qs) (don++ [(O,p3)]) m'=(u_ p3:oq Gp):=by
        have e1:(don.find? λq=>decide (q.1=m'))=none:=List.find?_eq_none.mpr λq hq e=>aK (by rw[<-c,<-um e];exact Up hq)
        have e2:((don++ [(O,p3)]).find? λq:Str×Gp=>decide (q.1=m'))=u_ (O,p3):=by rw[rM,e1,c];simp
        show((don++ [(O,p3)]).find? λq:Str×Gp=>decide (q.1=m')).map (·.2)=u_ p3;rw[e2]
        rfl
       exists λg2 e2=>?_,λz=>?_
       ·have e3:=aL.symm.trans e2;cases e3;rw[A6 (by rw[c])]
        exact[v2:1:j6]
       ·have e3:=aL.symm.trans z;cases e3
      ·have aL:Sy.Ys (Y:=SyP qs) (don++ [(O,p3)]) m'=Sy.Ys (Y:=SyP qs) don m':=by
        have e2:((don++ [(O,p3)]).find? λq:Str×Gp=>decide (q.1=m'))=don.find? λq:Str×Gp=>decide (q.1=m'):=by
         rw[rM];have:([(O,p3)].find? λq:Str×Gp=>decide (q.1=m'))=none:=by simp;exact λz=>c z.symm
         rw[this,Option.or_none]
        show((don++ [(O,p3)]).find? λq:Str×Gp=>decide (q.1=m')).map (·.2)=(don.find? λq:Str×Gp=>decide (q.1=m')).map (·.2);rw[e2]
       rw[A4 (λz=>c (UB z))];have aM:(∀g2:Gp,Sy.Ys (Y:=SyP qs) don m'=u_ g2->∃v,iR ad (Vj m')=u_ v/\Is H6 (Qp (g2.en.getD .non)) v)/\(Sy.Ys (Y:=SyP qs) don m'=U_->iR ad (Vj m')=U_):=(aY.mono aJ) m' g' cg;exact[λg2 e2=>aM.1 g2 (aL.symm.trans e2):λz=>aM.2 (aL.symm.trans z)]
     have a6:x9 a.qN a.qr H6 o.x t l:=bp.frame (λb U ob h=>aw.kept b ob (ah.kept b ob h (aH b (ac b U))) (cc b (ac b U))) aJ;have a7:∀q∈don++ [(O,p3)],q.2.en.isSome=true:=by
      intro q hq;rcases Af.mp hq with hq|hq
      ·exact Z.fin q hq
      ·cases Ae.mp hq;exact au
     have eN:Sy.nx (Sy.S0 (SyP qs) n) (i3+1)=Sy.nxt #[Y,(O,p3)::l,don]:=by show Sy.nxt (Sy.nx _ i3)=_;rw[<-aP]
     have a8:=SH (qs:=qs) n (i3+1);rw[eN] at a8;have a9:=Ea hB.q aZ;have bx:OI a.qN a.qr H H6 o n (Sy.nxt #[Y,(O,p3)::l,don]) t (JK uk (Vj gc.n)) (rk++ [(Vj O,v1)]) (lY ad (Vj O) v2):=by
      exists cd,[i3+1:eN.symm],aw.kept _ _ bP (by simp![uC,uA,uP,Vf];exact[d2:d3]),aw.kept _ _ bO (by simp![uC,uA,uP,Vf];exact[d4:d5]),?_,(),aI,?_,?_,?_,ba,?_,(),?_,ac,Z.sep.2,a9,?_,a8
      ·rwa[ae]
      ·rwa[ae]
      ·rwa[ae]
      ·have e:(Sy.nxt #[Y,(O,p3)::l,don]).don.length=↑don+1:=by rwa[ae]
       omega
      ·rwa[ae]
      ·rwa[ae]
      ·rwa[ae]
     exact⟨_,Vw aC aW,_,t,_,_,_,_,0,1,bx⟩
    ·
     refine iN (ub (λz=>by cases z)) ?_
     erw[LJ (qs:=qs) au hw hy,p',ch,ae];rw[ae] at aC;erw[Sy.J9 hy,y1,_,y3];have bV:=Bu (Y:=SyP qs) ((O,p3)::l);have aS:↑((O,p3)::l)<=Sy.mu #[Y,(O,p3)::l,don]:=uL bV (UQ _ _);have cv:↑t=↑l:=hT.len;have bU:↑uk+Sy.mu #[Y,(O,p)::l,don]<=20001:=bL
     exists 0,o.x,o.dx,0,ay.e,ZS o _ (),0,o,m,qs,_,uk,p',1,ay,hB.q,af,?_,aA,(),ch,λgn sn H4 aa aF al bA bB bC aT=>?_
     ·rw[uq,u9,vM,uU];rw[uj] at aS;omega
     have aQ:∀b,b∉LO o->b∉ [o.ls,o.du]:=λb U z=>U (by simp![LO,uC,uA,uP] at z⊢;rcases z with z|z;exact .inl z;exact .inr (.inl z))
     have ci:Kp (LO o) H H4:=[λb ob h n=>aa.kept b ob (ap.kept b ob h n) (aQ b n):ap.tk.trans aa.tk];have aH:∀b,H b=U_->b∉ [o.ls,o.du]:=λb U=>aQ b (hB.nlo U);have aN:∀b∈plc gn sn,H b=none:=λb U=>by
      have h3:=aT b U;cases h:H b with
      |none=>rfl
      |some ob=>
       by_cases c:b∈LO o
       ·simp![LO,uC,uA,uP] at c;rcases c with rfl|rfl|rfl|rfl
        ·rw[af] at h3;cases h3
        ·rw[aA] at h3;cases h3
        ·rw[aB] at h3;cases h3
        ·rw[aD] at h3;cases h3
       ·rw[ap.kept b ob h c] at h3;cases h3
     exists _,Vw aC aW,[(m,p')::(O,p3)::l:don],(gn,sn)::(gc,ak)::t,lY uk (Vj m) (.bl v_),rk,ad,_,0,1;have cf:=yZ uk (Vj m:Key) (.bl v_)
     exists 5
     refine⟨ci,⟨i3+1,by show _=Sy.nxt (Sy.nx _ i3);rw[<-aP,ae]⟩,?_,al,?_,(),aa.kept _ _ aB (by simp![uC,uA,uP,Vf];exact[d2.symm:d4.symm]),Z.rks,Z.rv.mono (hR.tk.trans aa.tk),?_,aa.kept _ _ aD (by simp![uC,uA,uP,Vf];exact[d3.symm:d5.symm]),?_,(),?_,?_,?_,?_,Z.fin,?_⟩
     ·rw[aF,V8,V8,uh,uh]
      rfl
     ·intro m';rw[X9];by_cases c:m'=m
      ·rw[A6 (by rw[c])]
       exact(A9 (by rw[c];exact ue)).symm
      ·rw[A4 (λz=>c (UB z))];refine(Z.uo m').trans ?_;rw[uZ];exact⟨λz=>uc _ z,λz=>by rcases Ac.mp z with z|z;exact Aa z c;exact z⟩
     ·show ↑don+_<=_;omega
     ·exact aY.mono aa.tk
     ·exact⟨bA,bB,bC,aO.frame (λb U ob h=>aa.kept b ob h (aH b (aq b U))) aa.tk,ag,bI,bp.frame (λb U ob h=>aa.kept b ob h (aH b (ac b U))) aa.tk⟩
     ·intro b U;rcases Af.mp U with U|U
      ·exact aN b U
      ·rcases Af.mp U with U|U
       ·exact aq b U
       ·exact ac b U
     ·exists λb U z=>?_,bq,Z.sep.2;have h3:=aT b U;rcases Af.mp z with z|z
      ·erw[aO.there b z,ob,e];rw[e] at h3;cases h3
      ·erw[bp.there b z,ob,e];rw[e] at h3;cases h3
     ·have:=Ea hB.q aZ;rwa[ae] at this
     ·have:=SH (qs:=qs) n (i3+1);have e:Sy.nx (Sy.S0 (SyP qs) n) (i3+1)=⟨(m,p')::(O,p3)::l,don⟩:=by show Sy.nxt (Sy.nx _ i3)=_;rw[<-aP,ae]
      rwa[e] at this
 have u0:SF #[Y,[],[]] []:=λm=>by rw[Kk];rfl
 have f0:CB H #[Y,[],[]] []:=λm g hg=>⟨(λg' e=>by cases e),λ_=>Kk⟩
 have g0:SGI #[Y,[],[]]:=λp hp=>by rcases hp with hp|hp<;>cases hp
 exists 0,o.x,o.dx,0,hO.e,ZS o _ (),0,o,n,qs,#[Y,[],[]],[],[],1,hO,hB.q,g0,bg,u0,bF,f0,(),(λ_ z=>by cases z),λv H1 fk1 k1 f1 d1 l1 bW y1=>?_
 have aR:=hB.nd;simp![LO,U1,uC,uA,uP,Vf,vO,and_true,V7] at aR;erw[aR,[n1,n2,n3],[n4,n5],n6];have aU:∀b,b≠o.df->b∉ [o.df]:=λb U z=>U (Ae.mp z);have aV:Kp (LO o) H H1:=⟨λb ob h z=>k1.kept b ob h (λy=>z (by rw[Ae.mp y];simp[LO])),k1.tk⟩
 have bX:=hB.at aV;have bc:=k1.kept _ _ bD (aU _ n3);have bd:=k1.kept _ _ bg (aU _ n5);have be:=k1.kept _ _ bE (aU _ n6)
 exists 1,0;unfold AD at y1;cases hg:(SyP qs).g0 n with
 |none=>
  have ey:Sy.yet #[Y,[],[]] n=u_ (u_ ((SyP qs).once n)):=by
   unfold Sy.yet;rw[A4 (by intro z;cases z),hg]
  rw[ey] at y1;erw[y1,d,i1,i2,_];have cj:d≠ .non:=by
   cases h:(SyP qs).once n with
   |none=>rw[h] at i2;intro z;rw[z] at i2;cases i2
   |some x=>rw[h] at i2;intro z;rw[z] at i2;cases i2
  refine iN (ub (zK i1 cj)) ?_;have e0:Sy.S0 (SyP qs) n=⟨[],[]⟩:=by unfold Sy.S0;rw[hg]
  rw[e0] at bG;have l1:↑fk1<=0+1:=l1;exact bH H1 [[]:[]] [] [] [] fk1 ⟨aV,[(0):e0.symm],bc,bd,u0,(by show 0+_<=_;omega),be,1,1,(by show 0+_<=_;omega),f1,d1,(),trivial,(λb U=>by cases U),trivial,g0,(λq hq=>by cases hq),vO⟩
 |some p=>
  have ey:Sy.yet #[Y,[],[]] n=none:=by
   unfold Sy.yet;rw[A4 (by intro z;cases z),hg]
   rfl
  rw[ey] at y1;cases(show v= .non from y1)
  refine lh (A9 rfl) ?_;have e0:Sy.S0 (SyP qs) n=⟨[(n,p)],[]⟩:=by unfold Sy.S0;rw[hg]
  rw[e0] at bG;have bW:↑fk1=0:=bW ey
  exists 0,o.x,o.dx,0,bX.e,ZS o _ (),0,o,n,qs,[],[],p,1,bX,hB.q,bc,(),bd,(),hg,λgn sn H2 k2 am bY bA bB bC aT=>?_
  have ck:Kp (LO o) H H2:=⟨λb ob h z=>k2.kept b ob (aV.kept b ob h z) (λy=>z (by simp![LO,uC,uA,uP] at y⊢;rcases y with y|y;exact .inl y;exact .inr (.inl y))),aV.tk.trans k2.tk⟩
  have aN:∀b∈plc gn sn,H b=none:=λb U=>by
   have h3:=aT b U;cases h:H b with
   |none=>rfl
   |some ob=>
    by_cases c:b=o.df
    ·rw[c,f1] at h3;cases h3
    ·rw[k1.kept b ob h (aU b c)] at h3;cases h3
  have bf:∀b,b≠o.ls->b≠o.du->b∉ [o.ls,o.du]:=λb h1 h2 z=>by
   simp![uC,uA,uP] at z;rcases z with z|z
   ·exact h1 z
   ·exact h2 z
  refine bH H2 [[(n,p)]:[]] [(gn,sn)] (lY [] (Vj n) (.bl v_)) [] fk1 ⟨ck,[(0):e0.symm],am,bY,?_,?_,k2.kept _ _ be (bf _ (UC n2) (UC n4)),1,1,(by show 0+_<=_;omega),k2.kept _ _ f1 (bf _ (UC n3) (UC n5)),d1.mono k2.tk,(),⟨bA,bB,bC,trivial⟩,?_,⟨λb U z=>(by cases z),trivial⟩,?_,(λq hq=>by cases hq),?_⟩
  ·intro m';rw[X9];by_cases c:m'=n
   ·rw[A6 (by rw[c])]
    exact(A9 (by rw[c];exact ue)).symm
   ·rw[A4 (λz=>c (UB z)),Kk];exact(ub (λz=>c (Ae.mp z))).symm
  ·have:=yZ [] (Vj n:Key) (.bl v_);rw[HI] at this;omega
  ·intro b U;rcases Af.mp U with U|U
   ·exact aN b U
   ·cases U
  ·intro q hq;rcases hq with hq|hq
   ·cases Ae.mp hq;exact oX hB.q hg
   ·cases hq
  ·exact List.nodup_cons.mpr ⟨(λz=>by cases z),vO⟩
end
namespace Sy
variable {Y:Sy}
variable {n0:Str}
def Acb (h:Y.Ok){n:Str}{g:Y.G}{r don:om (Str×Y.G)}(hs:SOk n0 ([(n,g)::r:don]:Ss Y))(hf:Y.fin g=Vh)(hw:Y.want g=u_ m){o:oq (oq D)}(O:yet ([(n,g)::r:don]:Ss Y) m=u_ o):F Y m=o:=by
 erw[hs,[[s,k,U,hk],c2,c3],nd,Z,bot];unfold yet at O;by_cases c:m∈((n,g)::r).map (·.1)
 ·rw[A6 c] at O;cases O;have w:Wt Y n m:=⟨s,k,U,by rwa[<-hk],by rwa[<-hk]⟩
  rcases Ac.mp c with rfl|hm
  ·exact zf h (.one w)
  ·exact zf h (.more (Ij (g:=g) [⟨s,k,U,hk⟩:c2:c3] hm) w)
 ·rw[A4 c] at O;cases hg:Y.g0 m with
  |none=>
   rw[hg] at O;cases O;exact zi h hg
  |some gm=>
   rw[hg] at O;simp only at O;cases hd:Ys don m with
   |none=>rw[hd] at O;cases O
   |some gd=>
    rw[hd] at O;cases O;erw[Z _ (Zy hd),s',e1,e2];rw[hg] at e1;cases e1;have e3:gd=it Y (F Y) Y.M gm:=e2;rw[F_run h hg,e3]
nonrec def AbY (Y:Sy)(ns:om Str)(n:Str)(g:Y.G):Prop:=∃s k,Y.g0 n=u_ s/\g=it Y (F Y) k s/\∀i,i<k->Y.fin (it Y (F Y) i s)=Vh->∀m,Y.want (it Y (F Y) i s)=u_ m->Y.g0 m=U_∨m∈ns
def AbY.more {ns O:om Str}{n:Str}{g:Y.G}(h:AbY Y ns n g)(hn:∀m∈ns,m∈O):AbY Y O n g:=by
 erw[h,s,k,h1,h2,h3];exact⟨s,k,h1,h2,λi hi U m Z=>(h3 i hi U m Z).imp id (hn m)⟩
nonrec def ZW (S:Ss Y):om Str:=S.stk.map (·.1)++S.don.map (·.1)
nonrec def Clo (S:Ss Y):Prop:=∀p,p∈S.stk∨p∈S.don->AbY Y (ZW S) p.1 p.2
variable {S:Ss Y}
def PJ (h:Y.Ok)(hs:SOk n0 S)(c:Clo S):Clo (nxt S):=by
 erw[S,stk,don];cases stk with
 |nil=>exact c
 |cons p r=>
  erw[p,n,g];have c0:=c (n,g) (.inl ue);have on:∀g',Y.fin g=Vh->step Y (F Y) g=g'->(∀m,Y.want g=u_ m->Y.g0 m=U_∨m∈ZW (⟨(n,g)::r,don⟩:Ss Y))->Clo (⟨(n,g')::r,don⟩:Ss Y):=by
   intro g' hf e hm p O;have U:∀m∈ZW (⟨(n,g)::r,don⟩:Ss Y),m∈ZW (⟨(n,g')::r,don⟩:Ss Y):=λm hm=>hm;have top:AbY Y (ZW (⟨(n,g')::r,don⟩:Ss Y)) n g':=by
    erw[c0,s,k,h1,h2,h3];have h2:g=it Y (F Y) k s:=h2;exists s,k+1,h1,by rw[Wm,<-h2,e],λi hi aa m hw=>?_
    by_cases ci:i<k
    ·exact(h3 i ci aa m hw).imp id (U m)
    ·have:i=k:=by omega
     subst this;rw[<-h2] at hw;exact(hm m hw).imp id (U m)
   rcases O with O|O
   ·rcases Ac.mp O with rfl|O
    ·exact top
    ·exact(c p (.inl (uc _ O))).more U
   ·exact(c p (.inr O)).more U
  unfold nxt;simp only;cases hf:Y.fin g with
  |true=>
   rw[A6 rfl];have U:∀m∈ZW (⟨(n,g)::r,don⟩:Ss Y),m∈ZW (⟨r,don++ [(n,g)]⟩:Ss Y):=by
    intro m hm;unfold ZW at hm⊢;simp![ur,uh,Uk,U4,uC,Uj,uA,uP] at hm⊢;rcases hm with hm|hm|hm
    ·exact .inr (.inr hm)
    ·exact .inl hm
    ·exact .inr (.inl hm)
   intro p O;rcases O with O|O
   ·exact(c p (.inl (uc _ O))).more U
   ·rcases Af.mp O with O|O
    ·exact(c p (.inr O)).more U
    ·cases Ae.mp O;exact c0.more U
  |false=>
   rw[A4 ua];have Z:step Y (F Y) g=match Y.want g with
     |none=>Y.own g
     |some m=>match F Y m with
      |some a=>Y.tk g a
      |none=>Y.stuck g m:=by
    unfold step;rw[hf,A4 ua]
    all_goals rfl
   cases hw:Y.want g with
   |none=>exact on _ hf (by rw[Z,hw]) λm z=>by rw[hw] at z;cases z
   |some m=>
    rw[hw] at Z;simp only at Z⊢;cases hy:yet ([(n,g)::r:don]:Ss Y) m with
    |some o=>
     have hF:=Acb h hs hf hw hy;have hm:∀m',Y.want g=u_ m'->Y.g0 m'=U_∨m'∈ZW (⟨(n,g)::r,don⟩:Ss Y):=by
      intro m' z;rw[hw] at z;cases z;unfold yet at hy;by_cases cm:m∈((n,g)::r).map (·.1)
      ·exact .inr (vn _ cm)
      ·rw[A4 cm] at hy;cases hg:Y.g0 m with
       |none=>exact .inl rfl
       |some gm=>
        rw[hg] at hy;simp only at hy;cases hd:Ys don m with
        |none=>rw[hd] at hy;cases hy
        |some gd=>exact .inr (uM _ (Ag.mpr [_:Zy hd:1]))
     cases o with
     |some a=>exact on _ hf (by rw[Z,hF]) hm
     |none=>exact on _ hf (by rw[Z,hF]) hm
    |none=>
     simp only;erw[J9 hy,h1,[g',hg],h2];rw[hg];have U:∀m'∈ZW (⟨(n,g)::r,don⟩:Ss Y),m'∈ZW (⟨(m,g')::(n,g)::r,don⟩:Ss Y):=λm' hm=>uc _ hm;intro p O;rcases O with O|O
     ·rcases Ac.mp O with rfl|O
      ·exact⟨g',(0),hg,1,λi hi=>Aa hi (HE i)⟩
      ·exact(c p (.inl O)).more U
     ·exact(c p (.inr O)).more U
def MP (h:Y.Ok){n0:Str}{S:Ss Y}(O:SOk n0 S)(c:Clo S):∀k,Clo (nx S k)
 |0=>c
 |k+1=>PJ h (nx_ok h O k) (MP h O c k)
def AbJ {n:Str}{g:Y.G}(U:Y.g0 n=u_ g):Clo (S0 Y n):=by
 unfold S0;rw[U];intro p O;rcases O with O|O
 ·cases Ae.mp O;exact⟨g,(0),U,1,λi hi=>Aa hi (HE i)⟩
 ·cases O
variable {i:Nat}
def end_clo (h:Y.Ok){g0:Y.G}(U:Y.g0 n0=u_ g0){k:Nat}{don:om (Str×Y.G)}(hk:nx (S0 Y n0) k=[[]:don]){p:Str×Y.G}(hp:p∈don){s:Y.G}(Z:Y.g0 p.1=u_ s)(hf:Y.fin (it Y (F Y) i s)=Vh)(hw:Y.want (it Y (F Y) i s)=u_ m):Y.g0 m=U_∨m∈don.map (·.1):=by
 have c:=MP h (S0_ok U) (AbJ U) k;have ok:=nx_ok h (S0_ok U) k;rw[hk] at c ok;erw[c p (.inr hp),s',k',h1,h2,h3];rw[Z] at h1;cases h1;erw[ok.don p hp,s2,e1,e2];rw[Z] at e1;cases e1;have O:Y.fin (it Y (F Y) k' s)=true:=by
  rw[<-h2,e2];exact kz h _ _ (h.l0 _ _ Z)
 have aa:i<k':=by
  rcases UV i k' with z|z
  ·exact z
  ·erw[Ve z,d,rfl];rw[wk,xB O,O] at hf;cases hf
 rcases h3 i aa hf m hw with z|z
 ·exact .inl z
 ·exact .inr (by simpa [ZW] using z)
end Sy
section
variable {qs qs':om (Str×D)}
noncomputable abbrev FP (qs:om (Str×D)):Sy.Orc:=Sy.F (SyP qs)
noncomputable abbrev itP (qs:om (Str×D)) (k:Nat) (g:Gp):Gp:=Sy.it (SyP qs) (FP qs) k g
def NJ (g:Gp):Sy.step (SyP qs) (FP qs) g=if g.en.isSome=v_ then g else match Q5 g with
  |none=>m6 qs g
  |some m=>match FP qs m with
   |some a=>QT g (a.getD .non)
   |none=>m8 g m:=rfl
nonrec def Wi (p:Gp):om D:=p.ra++runPG' p.run
where runPG':oq (om Rw×Rn)->om D
 |none=> []
 |some (_,r)=>r.gs
nonrec def GA (g:Gp):Prop:=g.run=U_->g.en=U_->g.ra= []
def sU {rs:om Rw}{own:Str}{gs:om D}:∀(f:Nat) (B:Str->D) (p:Int) (n:Nat),(mJ rs own gs f B p n).gs=gs
 |0,B,p,n=>rfl
 |f+1,B,p,n=>by
  unfold mJ;by_cases c:p>↑rs
  ·rw[A6 c]
  ·rw[A4 c];cases U:mF own (Jl rs p) B p with
   |go O p'=>exact sU f O p' (n+1)
   |stop e=>rfl
def SD {r:Rn}{a:D}:(mS rs own r a).gs=r.gs++ [.tup [wm r.th,a]]:=by
 unfold mS;split
 ·rfl
 ·exact sU _ _ _ _
def BT (h:g.run=U_)(d:D):Wi (mV g d)=g.ra/\GA (mV g d):=by
 unfold mV;split
 ·exists ?_,λ_ z=>by cases z
  show g.ra++Wi.runPG' g.run=g.ra;rw[h];exact vg _
 ·cases hd:ya d with
  |none=>
   exists ?_,λ_ z=>by cases z
   show g.ra++Wi.runPG' g.run=g.ra;rw[h];exact vg _
  |some rs=>
   exists ?_,λz=>by cases z
   show g.ra++(R0 rs g.n).gs=g.ra;rw[show(R0 rs g.n).gs= [] from sU _ _ _ _]
   exact vg _
def sH (ha:GA g)(he:g.en=U_)(d:D):Wi (QT g d)=Wi g++ [.tup [xr g,d]]/\GA (QT g d):=by
 unfold QT;cases O:g.run with
 |none=>
  have U:=ha O he;erw[BT (g:=⟨g.n,g.mb,[.tup [.tup [.str "rule",g.mb],d]],U_,g.en⟩) rfl d,h1,h2];exists h1.trans ?_,h2;have e1:Wi g= []:=by unfold Wi;rw[U,O];rfl
  have Z:xr g= .tup [.str "rule",g.mb]:=by unfold xr;rw[O]
  rw[e1,Z]
  rfl
 |some p=>
  erw[p,rs,r];exists ?_,λz=>by cases z
  show g.ra++(mS rs g.n r d).gs=Wi g++_;have Z:xr g=wm r.th:=by unfold xr;rw[O]
  have e3:Wi g=g.ra++r.gs:=by unfold Wi;rw[O];rfl
  rw[SD,Z,e3,UJ]
def Abj {d:D}(h:g0D m d=u_ g):GA g/\Wi g= []:=by
 unfold g0D at h;split at h
 ·split at h
  ·cases h
  ·split at h
   ·cases h;exact[λ_ _=>rfl:1]
   ·cases h;erw[BT (g:=⟨m,.non,[],U_,U_⟩) rfl _,h1,h2];exact[h2:h1]
 ·cases h
def DL (U:QQ qs)(O:g0D m (qG qs m)=U_):Jk ((WZ (qG qs m)).getD .non):=by
 by_cases hm:m∈qs.map (·.1)
 ·erw[X4 U hm,hn,k,e,hd,h1,h2];rw[hd] at O⊢;unfold g0D at O;simp only at O;by_cases c:k="leaf"
  ·exact .inr (h2 (by rw[c];decide+kernel)).2
  ·rw[A4 c] at O;split at O<;>cases O
 ·rw[jh hm];exact .inl rfl
variable {f:Sy.Orc}
def CV (Z:QQ qs)(hf:∀m a,f m=u_ a->Jk (a.getD .non))(h:GI g)(ha:GA g):GI (Sy.step (SyP qs) f g)/\GA (Sy.step (SyP qs) f g):=by
 have e:Sy.step (SyP qs) f g=if g.en.isSome=v_ then g else match Q5 g with
  |none=>m6 qs g
  |some m=>match f m with
   |some a=>QT g (a.getD .non)
   |none=>m8 g m:=rfl
 rw[e];cases O:g.en with
 |some d=>exact[h:ha]
 |none=>
  simp![tP,A4 ua];cases U:Q5 g with
  |none=>
   erw[ZY (qs:=qs) h O U,rs,r,k,z,_,_,hk,_,e];exists BD Z h O U;show GA (m6 qs g);rw[e];exact(sH ha O _).2
  |some m=>
   simp only;cases hm:f m with
   |some a=>exact[KZ h O (hf m a hm):(sH ha O _).2]
   |none=>exact⟨EL h m,λ_ z=>by cases z⟩
def Sc (O:QQ qs){f:Sy.Orc}(U:∀m a,f m=u_ a->Jk (a.getD .non)):∀(k:Nat) {g:Gp},GI g->GA g->GI (Sy.it (SyP qs) f k g)/\GA (Sy.it (SyP qs) f k g)
 |0,g,h,ha=>[h:ha]
 |k+1,g,h,ha=>Sc O U k (CV O U h ha).1 (CV O U h ha).2
def Ab1 (U:QQ qs):∀(k:Nat) (m:Str) (a:oq D),Sy.Fh (SyP qs) k m=u_ a->Jk (a.getD .non)
 |0,m,a,h=>by
  cases O:(SyP qs).g0 m with
  |none=>rw[Sy.Xf O] at h;cases h;exact DL U O
  |some g=>rw[Sy.zD O] at h;cases h
 |k+1,m,a,h=>by
  cases O:(SyP qs).g0 m with
  |none=>rw[Sy.Xf O] at h;cases h;exact DL U O
  |some g=>
   rw[Sy.ww O] at h;have Z:=Sc U (Ab1 U k) 302 (oX U O).1 (Abj O).1;cases hs:(SyP qs).said (Sy.it (SyP qs) (Sy.Fh (SyP qs) k) (SyP qs).M g) with
   |none=>rw[hs] at h;cases h
   |some v=>
    rw[hs] at h;cases h;exact .inr (sR Z.1 hs)
def AdN (O:QQ qs)(m:Str)(a:oq D)(h:FP qs m=u_ a):Jk (a.getD .non):=by
 erw[(Sy.F_iff (Qg qs)).mp h,k,h];exact Ab1 O k m a h
def oR (O:QQ qs)(U:g0D m (qG qs m)=u_ g)(k:Nat):GI (itP qs k g)/\GA (itP qs k g):=Sc O (AdN O) k (oX O U).1 (Abj U).1
end
nonrec def Dn (qs:om (Str×D))(n:Str)(don:om (Str×Gp)):Prop:=∃j,Sy.nx (Sy.S0 (SyP qs) n) j=[[]:don]
section
variable {qs:om (Str×D)}{n:Str}{don don':om (Str×Gp)}
def Abv (h:Dn qs n don)(k:Dn qs n don'):don=don':=by
 erw[h,i,hi];erw[k,j,O];have e:=Sy.nx_one (S:=Sy.S0 (SyP qs) n) (k:=i) (j:=j) (by rw[hi]) (by rw[O])
 rw[hi,O] at e;exact Ab Sy.Ss.don e
def Aw (O:g0D n (qG qs n)=U_)(h:Dn qs n don):don= []:=by
 have U:Sy.S0 (SyP qs) n=⟨[],[]⟩:=by unfold Sy.S0;rw[show(SyP qs).g0 n=U_ from O]
 exact Abv h [(0):U]
def Su (O:g0D n (qG qs n)=u_ g)(h:Dn qs n don):Sy.SOk (Y:=SyP qs) n [[]:don]:=by
 erw[h,j,U];rw[<-U];exact Sy.nx_ok (Qg qs) (Sy.S0_ok O) j
def E9 (O:g0D n (qG qs n)=u_ g)(h:Dn qs n don):(don.map (·.1)).getLast? =u_ n:=by
 rcases(Su O h).bot with b|⟨_,b⟩
 ·cases b
 ·exact b
def sr (h:Dn qs n don){p:Str×Gp}(O:p∈don):∃s,g0D p.1 (qG qs p.1)=u_ s/\p.2=Sy.it (SyP qs) (Sy.F (SyP qs)) 302 s:=by
 cases U:g0D n (qG qs n) with
 |none=>rw[Aw U h] at O;cases O
 |some g=>exact(Su U h).don p O
def Abw (h:Dn qs n don):(don.map (·.1)).Nodup:=by
 cases O:g0D n (qG qs n) with
 |none=>rw[Aw O h];exact vO
 |some g=>exact(Su O h).nd
end
nonrec def Ade (p:Gp):D:= .tup (p.ra++nU p.run)
nonrec def Ac3 (p:Gp):D:=p.en.getD .non
variable {don:om (Str×Gp)}
def Abu {n:Str}(h:Dn qs n don)(hm:g0D m (qG qs m)=U_∨m∈don.map (·.1)):Sy.yet #[Y,[],don] m=u_ (FP qs m):=by
 cases U:(SyP qs).g0 m with
 |none=>
  unfold Sy.yet;rw[A4 (by intro z;cases z),U]
  show u_ (u_ ((SyP qs).once m))=u_ (FP qs m);rw[show FP qs m=_ from Sy.zi (Qg qs) U]
 |some g=>
  rcases hm with hm|hm
  ·rw[show(SyP qs).g0 m=U_ from hm] at U;cases U
  ·erw[Ag.mp hm,[O,p],hp,rfl];have hd:Sy.Ys (Y:=SyP qs) don O=u_ p:=by
    have Z:=Abw h;unfold Sy.Ys;have:(don.find? λq=>decide (q.1=O))=u_ (O,p):=by
     clear h hm
     induction don with
     |nil=>cases hp
     |cons q r ih=>
      rw[ur,U1] at Z;rcases Ac.mp hp with rfl|hp
      ·rw[uQ,A9 rfl]
      ·have aa:q.1≠O:=λz=>Z.1 (by rw[z];exact Ag.mpr [_:hp:1])
       rw[uQ,ub aa];exact ih hp Z.2
    have e2:(RJ (λq:Str×Gp=>decide (q.1=O)) don).map (·.2)=u_ p:=by rw[this];rfl
    exact e2
   erw[sr h hp,s,e2,e3];have e2:(SyP qs).g0 O=u_ s:=e2;rw[U] at e2;cases e2;unfold Sy.yet;rw[A4 (by intro z;cases z),U]
   show(Sy.Ys (Y:=SyP qs) don O).map (λg=>((SyP qs).said g).map u_)=u_ (FP qs O);rw[hd];show u_ (((SyP qs).said p).map u_)=u_ (FP qs O);rw[show FP qs O=_ from Sy.F_run (Qg qs) U]
   have e3:p=Sy.it (SyP qs) (Sy.F (SyP qs)) 302 g:=e3;rw[e3]
   rfl
end K22
namespace K22
open PySem L2 PyProof.Rows
structure Cz (CO CP:o6)(H0 H:Hp)(qs:om (Str×D))(n:Str)(o:Oc)(rk uk fk:om (Key×V))(don:om (Str×Gp)):Prop where
 sm:ie H0 H
 oa:OAt CO CP H o qs
 dr:H o.dr=u_ (.dK rk)
 ks:rk.map (·.1)=don.map λp=>Vj p.1
 vs:L2.IsL H (don.map λp=>Xv p.2) (rk.map (·.2))
 du:H o.du=u_ (.dK uk)
 uo:SF #[Y,[],don] uk
 df:H o.df=u_ (.dK fk)
 fd:CB H #[Y,[],don] fk
 fl:↑fk<=20101
 dn:Dn qs n don
 sg:SGI #[Y,[],don]
 gi:∀p∈don,GI p.2/\p.2.en.isSome=v_
 len:↑don<=20001
 new:H0 o.x=U_/\H0 o.dr=U_/\H0 o.du=U_/\H0 o.df=U_
 ne:o.dr≠o.df/\o.du≠o.df
variable {CO CP:o6}{H H':Hp}{qs:om (Str×D)}{fk:om (Key×V)}{don:om (Str×Gp)}
def Cz.same {H0:Hp}{n:Str}{o:Oc}{rk uk:om (Key×V)}(h:Cz CO CP H0 H qs n o rk uk fk don)(s:ie H H'):Cz CO CP H0 H' qs n o rk uk fk don:=
 ⟨h.sm.trans s,[s _ _ h.oa.e:h.oa.p.same s],s _ _ h.dr,h.ks,h.vs.mono s.tk,s _ _ h.du,h.uo,s _ _ h.df,h.fd.mono s.tk,h.fl,h.dn,h.sg,h.gi,h.len,h.new,h.ne⟩
inductive Aak:Sp
 |mk (z:_)(_:vs= [.str z])(_:nm z=v_)(_:∀H',ie H H'->Q .non H')
inductive Om:Sp
 |mk (t:_)(z:_)(_:vs= [.ref t])(_:H t=u_ (.tup [.str z]))(_:nm z=v_)(_:∀H',ie H H'->Q .non H')
inductive NW (CO CP:Addr):Sp
 |mk (px t:Addr)(n:Str)(qs:List (Str×D))(_:vs= [.ref px,.ref t])(_:H t=u_ (.tup [.str n]))(_:nm n=v_)(_:jv CP H px qs)(_:QQ qs)(_:∀H' o rk uk fk don,o.px=px->Cz CO CP H H' qs n o rk uk fk don->↑fk<=20001->Q (.ref o.x) H')
inductive Oj (CO CP:Addr):Sp
 |mk (px:Addr)(n:Str)(qs:List (Str×D))(_:vs= [.ref px,.str n])(_:nm n=v_)(_:jv CP H px qs)(_:QQ qs)(_:∀H' o rk uk fk don,o.px=px->Cz CO CP H H' qs n o rk uk fk don->↑fk<=20001->Q (.ref o.x) H')
def Sr {n:Str}(h:Dn qs n don):g0D n (qG qs n)=U_∨n∈don.map (·.1):=by
 cases O:g0D n (qG qs n) with
 |none=>exact .inl rfl
 |some g=>exact .inr (FR (E9 O h))
section
variable {P:og}{w:oh}{K:o0}{mg:Str->oq o7}{base:o9}{a:Ad}{g:Ga}
def AaT:#[T,2,a.ZE,a.Zq,["name"],Aak]:=by
 have U:=#[zB,T];exists 9,T.mC,qak,Z
 erw[h,z,rfl,O,k];have hl:=ZX O;exists 3,%[|#[qK,#[QD,#[Qo,#[qy,16,U,Z.mono (),_,T.iA.m,T.iA.F.kp,T.iA.b,.nil,qH,#v[pv 0],_,_,_]]],%[|jS],qx]]
 exists 0,.str z,.str z,1,yU (),λH1 s1=>[0:?_]
 have e:mK (.str z)=true:=O;rw[e];exact iW (k H1 s1)
def Pu:#[T,3,a.XE,a.XN,["names"],Om]:=by
 have O:=#[AaT,T];exists 9,T.mo,xw
 erw[h,t,z,rfl,Z,hz,k];exists 3,%[|#[Yh,#[pi_tup,pv 0],#[qU,(1),xw.nd],%[|#[Qd,#[qy,O,T.mC,#v[pv 1]]]]]]
 exists 0,t,1,[_:SqT.of Z];refine Ww (xs:= [.str z]) (λi σ H'=>(∃u,σ= [u_ (.ref t),u])/\ie H H') [⟨0⟩:ie.refl _] (λi σ H' _ h=>SqT.of (h.2 _ _ Z)) ?_ ?_
 ·rintro i x σ H' hx ⟨⟨u,rfl⟩,s1⟩;have U:x= .str z:=by
   cases i with
   |zero=>exact(uF hx).symm
   |succ i=>cases hx
  subst U;exact⟨0,z,1,hz,λH2 s2=>[⟨0⟩:s1.trans s2]⟩
 ·rintro σ H' ⟨_,s1⟩;exact k H' s1
def O5:#[C,14,a.ZF,a.Zz,["project","names"],(NW a.qu a.qQ)]:=by
 have aq:=#[Pu,T];have zX:=#[Ls,T];have jK:=#[OV,T,C];exists 9,T.iX,jI
 erw[h,px,t,n,qs,rfl,ht,hn,hP,hq,k1];exists 3,%[#[Qd,#[qy,aq,T.mo,#v[pv 1]]],#[qD,(2),jI.nd,#[Za,T.M_PlainOrder,zX,hr.mono (),T.m_PlainOrder,T.lG,qH,#v[pv 0]]],#[Yh,#[pi_tup,pv 1],#[qU,(3),jI.nd],%[|#[Qd,#[Qw,pv 2,T.qF,T.iM,jK,#v[pv 3]]]]]|#[qv,pv 2]]
 exists 8,N1,q1
 exists 0,t,n,1,ht,hn,λH1 s1=>q1 _ _ ?_;exists 8,N2,q2
 exists 0,λx dx hx au nx=>?_;have s0:ie H1 (upd (upd H1 dx (.own x)) x (.ins a.qu dx [])):=λb o h=>by rwa[qm (qo h hx),qm (qo h au)]
 exists x,dx,px,1,qk,λo H2 eo aw ax kp tk f1 f2 f3 f4 nd ac ad ae af ag=>[1:q2 _ _ ?_];exists 8,N3,q3;have ay:ie H1 H2:=λb ob h=>kp b ob (s0 b ob h) (qo h hx);have O:=s1.trans ay;have ah:=O _ _ ht;subst eo aw ax;have hB:Bs a.qu a.qQ H2 o qs:=⟨[ac:hP.same O],[_:ad],[_:ae],[_:af],[_:ag],nd,hq⟩
 exists 0,t,1,[_:SqT.of ah];have fr:∀b,upd (upd H1 o.dx (.own o.x)) o.x (.ins a.qu o.dx []) b=U_->H b=none:=λb U=>by
  cases e:H b with
  |none=>rfl
  |some ob=>rw[s0 b ob (s1 b ob e)] at U;cases U
 let J_:Nat->L2.St->Hp->Prop:=λi σ H'=>(∃u,σ= [u_ (.ref o.px),u_ (.ref t),u_ (.ref o.x),u])/\((i=0/\H'=H2)∨(i=1/\∃rk uk fk don,Cz a.qu a.qQ H H' qs n o rk uk fk don/\↑fk<=20001))
 refine Ww (xs:= [.str n]) J_ [⟨0⟩:.inl [1:1]] (λi σ H' _ h=>?_) ?_ ?_
 ·rcases h.2 with⟨_,rfl⟩|⟨_,rk,uk,fk,don,h,_⟩
  ·exact SqT.of ah
  ·exact SqT.of (h.sm _ _ ht)
 ·rintro i x' σ H' ak ⟨⟨u,rfl⟩,h⟩;have Z:x'= .str n/\i=0:=by
   cases i with
   |zero=>exact[(uF ak).symm:1]
   |succ i=>cases ak
  erw[Z,rfl,rfl];rcases h with⟨_,rfl⟩|⟨z,_⟩
  ·exists 0,o.x,o.dx,0,ac,ZS o _ (),0,o,qs,n,1,hB,ad,ae,af,ag,λH3 rk uk fk don j al aA am aB aC aD k3 aE ao aF aG aH ap=>?_
   have out:∀b,H b≠U_->b∉LO o:=λb U z=>by
    simp![LO,uC,uA,uP] at z;rcases z with rfl|rfl|rfl|rfl
    ·exact U (fr _ f1)
    ·exact U (fr _ f2)
    ·exact U (fr _ f3)
    ·exact U (fr _ f4)
   have aa:=nd;simp![U1,uC,uA,uP,Vf,vO,and_true,V7] at aa;have Z:H o.x=none:=by
    cases e:H o.x with
    |none=>rfl
    |some ob=>rw[s1 _ _ e] at hx;cases hx
   exact⟨⟨0⟩,.inr ⟨1,rk,uk,fk,don,⟨λb ob e=>k3.kept b ob (O b ob e) (out b (by rw[e];intro z;cases z)),hB.at k3,ao,aF,aG,al,aA,am,aB,(),[j:aE],aD,aH,ap,⟨Z,fr _ f3,fr _ f2,fr _ f4⟩,[aa.2.2:aa.2.1.2]⟩,aC⟩⟩
  ·cases z
 ·rintro σ H' ⟨⟨u,rfl⟩,h⟩;rcases h with⟨z,_⟩|⟨_,rk,uk,fk,don,h,hl⟩
  ·cases z
  ·exact q3 _ _ [0:k1 H' o rk uk fk don rfl h hl]
def Pq:#[C,15,a.Zi,a.Zn,["project","name"],(Oj a.qu a.qQ)]:=by
 have O:=#[O5,T,C];exists 9,T.my,KB,U
 erw[h,px,n,qs,rfl,hn,Z,hq,k1];have hs:=uw;exists 3,%[|#[qv,#[qy,16,O,U.mono (),_,T.iX.m,T.iX.F.kp,T.iX.b,.nil,qH,#v[pv 0,#[qB,#v[pv 1]]],_,_,_]]]
 exists 0,0,(sml rfl),λt ht=>?_;have s1:=qi ht (.tup [V.str n]);exact⟨px,t,n,qs,1,qk,hn,Z.same s1,hq,λH' o rk uk fk don e h hl=>k1 H' o rk uk fk don e ⟨s1.trans h.sm,h.oa,h.dr,h.ks,h.vs,h.du,h.uo,h.df,h.fd,h.fl,h.dn,h.sg,h.gi,h.len,⟨s1.free h.new.1,s1.free h.new.2.1,s1.free h.new.2.2.1,s1.free h.new.2.2.2⟩,h.ne⟩ hl⟩
end
nonrec def Yr (H:Hp)(d:o6)(ps:om (Str×D)):Prop:=∃vs:om (Str×V),H d=u_ (.dK (iy vs))/\vs.map (·.1)=ps.map (·.1)/\L2.IsL H (ps.map (·.2)) (vs.map (·.2))
variable {ps:om (Str×D)}
def Yr.same {d:o6}(h:Yr H d ps)(s:ie H H'):Yr H' d ps:=by
 erw[h,vs,h1,h2,h3];exact⟨vs,s _ _ h1,h2,h3.mono s.tk⟩
nonrec def nI {β:Type}(ps:om (Str×β))(z:Str)(e:β):om (Str×β):=ps.map λp=>if p.1=z then(p.1,e) else p
nonrec def mT {β:Type}(ps:om (Str×β))(z:Str)(e:β):om (Str×β):=if z∈ps.map (·.1) then nI ps z e else ps++ [(z,e)]
def KF (vs:om (Str×V))(z:Str)(v:V):lY (iy vs) (Vj z) v=iy (mT vs z v):=by
 unfold mT;by_cases c:z∈vs.map (·.1)
 ·rw[A6 c];unfold lY;rw[A6]
  ·unfold iy nI;rw[uN,uN];refine Uo λp _=>?_;by_cases h:p.1=z
   ·simp[h]
   ·simp[h]
  ·unfold iy;rw[Hz,Tg];erw[Ag.mp c,p,O,e];exact⟨p,O,by simp[e]⟩
 ·rw[A4 c,Kj _ (An c)];unfold iy;rw[uh]
  rfl
def Dj {H:Hp}{z:Str}{O:D}{u:V}(U:Is H O u):∀{ps:om (Str×D)}{vs:om (Str×V)},vs.map (·.1)=ps.map (·.1)->L2.IsL H (ps.map (·.2)) (vs.map (·.2))->(nI vs z u).map (·.1)=(nI ps z O).map (·.1)/\L2.IsL H ((nI ps z O).map (·.2)) ((nI vs z u).map (·.2))
 | [],[],_,_=>[1:1]
 | [],_::_,e,_=>by simp at e
 |_::_,[],e,_=>by simp at e
 |p::ps,v::vs,e,h=>by
  simp![ur,Uh] at e;erw[h,u',r,Z,h1,h2];simp![ur,Uh] at Z;erw[Z,rfl,rfl];erw[Dj (z:=z) U e.2 h2,i1,i2];rw[show nI (p::ps) z O=(if p.1=z then(p.1,O) else p)::nI ps z O from rfl,show nI (v::vs) z u=(if v.1=z then(v.1,u) else v)::nI vs z u from rfl]
  by_cases c:p.1=z
  ·rw[A6 c,A6 (e.1.trans c)];exists ?_,⟨_,0,U,i2⟩;rw[ur,ur,i1];exact Ab (·::_) e.1
  ·rw[A4 c,A4 (λq=>c (e.1.symm.trans q))];exists ?_,⟨_,0,h1,i2⟩;rw[ur,ur,i1];exact Ab (·::_) e.1
variable {z:Str}{e:D}
def K0 {u:V}(U:Is H e u){vs:om (Str×V)}(O:vs.map (·.1)=ps.map (·.1))(Z:L2.IsL H (ps.map (·.2)) (vs.map (·.2))):(mT vs z u).map (·.1)=(mT ps z e).map (·.1)/\L2.IsL H ((mT ps z e).map (·.2)) ((mT vs z u).map (·.2)):=by
 unfold mT;by_cases c:z∈ps.map (·.1)
 ·rw[A6 c,A6 (by rw[O];exact c)]
  exact Dj U O Z
 ·rw[A4 c,A4 (by rw[O];exact c)]
  refine⟨by rw[uh,uh,O];rfl,?_⟩
  rw[uh,uh];exact Z.append (L2.IsL.one U)
def Yr.up {d:o6}{vs ws:om (Str×V)}(hd:H d=u_ (.dK (iy vs)))(h1:ws.map (·.1)=ps.map (·.1))(h2:L2.IsL H (ps.map (·.2)) (ws.map (·.2))):Yr (upd H d (.dK (iy ws))) d ps:=
 ⟨ws,qk,h1,h2.mono (Tk.updD hd)⟩
def Z6 {β:Type}(z:Str)(e:β):∀ps:om (Str×β),(nI ps z e).map (·.1)=ps.map (·.1)
 | []=>rfl
 |p::r=>by
  rw[show nI (p::r) z e=(if p.1=z then(p.1,e) else p)::nI r z e from rfl,ur,ur,Z6 z e r]
  split<;>rfl
variable {x:Str}
def JB {β:Type}{ps:om (Str×β)}{e:β}:x∈(mT ps z e).map (·.1)↔x=z∨x∈ps.map (·.1):=by
 unfold mT;by_cases c:z∈ps.map (·.1)
 ·rw[A6 c,Z6];exact⟨.inr,λh=>h.elim (λe=>by rw[e];exact c) id⟩
 ·rw[A4 c,uh,Uj];exact[λh=>h.elim .inr (λh=> .inl (Ae.mp h)):λh=>h.elim (λe=> .inr (Ae.mpr e)) .inl]
def Id (z y:Str)(e:D):∀ps:om (Str×D),y∈ps.map (·.1)->qG (nI ps z e) y=if y=z then e else qG ps y
 | [],h=>by cases h
 |p::r,h=>by
  show qG ((if p.1=z then(p.1,e) else p)::nI r z e) y=_
  by_cases c:p.1=y
  ·have O:∀q:Str×D,q.1=y->∀l,qG (q::l) y=q.2:=λq U l=>by simp[qG,uQ,U]
   rw[O p c];by_cases d:p.1=z
   ·rw[A6 d,O (p.1,e) c,A6 (c.symm.trans d)]
   ·rw[A4 d,O _ c,A4 (λw=>d (c.trans w))]
  ·have O:∀q:Str×D,q.1≠y->∀l,qG (q::l) y=qG l y:=λq U l=>by simp[qG,uQ,U]
   have Z:(if p.1=z then(p.1,e) else p).1=p.1:=by split<;>rfl
   rw[O p c,O _ (by rw[Z];exact c)]
   refine Id z y e r ?_;rcases Ac.mp h with h|h
   ·exact Aa h.symm c
   ·exact h
def KO (ps:om (Str×D))(z y:Str)(e:D)(h:y=z∨y∈ps.map (·.1)):qG (mT ps z e) y=if y=z then e else qG ps y:=by
 unfold mT;by_cases c:z∈ps.map (·.1)
 ·rw[A6 c];exact Id z y e ps (h.elim (λw=>by rw[w];exact c) id)
 ·rw[A4 c];have O:∀l:om (Str×D),z∉l.map (·.1)->qG (l++ [(z,e)]) y=if y=z then e else qG l y:=by
   intro l
   induction l with
   |nil=>
    intro _;by_cases d:y=z
    ·simp[qG,d]
    ·simp[qG,d,UC d]
   |cons p r U=>
    intro Z;have h1:p.1≠z:=λw=>Z (Ag.mpr [p:ue:w]);have U:=U λw=>Z (uc _ w);by_cases d:p.1=y
    ·have d2:y≠z:=λw=>h1 (d.trans w);rw[A4 d2];simp[qG,d]
    ·have e1:∀l,qG (p::l) y=qG l y:=λl=>by simp[qG,uQ,d]
     rwa[U4,e1,e1]
  exact O ps c
nonrec def md (qs va:om (Str×D)):Sy.Orc:=λm=>if m∈qs.map (·.1) then(if m∈va.map (·.1) then u_ (u_ (qG va m)) else U_) else u_ U_
structure VOk (qs va:om (Str×D)):Prop where
 sub:∀m∈va.map (·.1),m∈qs.map (·.1)/\Sy.F (SyP qs) m=u_ (u_ (qG va m))/\isT (qG va m)=v_
nonrec def VLf (qs va:om (Str×D))(l:om Str):Prop:=∀m∈l,g0D m (qG qs m)=U_->m∈va.map (·.1)
section
variable {qs va:om (Str×D)}
variable {m:Str}
def MW (h:m∉qs.map (·.1)):(SyP qs).g0 m=U_/\(SyP qs).once m=none:=by
 exists ?_,?_
 ·show g0D m (qG qs m)=U_;rw[jh h]
  rfl
 ·show WZ (qG qs m)=U_;rw[jh h]
  rfl
def MK (h:VOk qs va):∀m a,md qs va m=u_ a->Sy.F (SyP qs) m=u_ a:=by
 intro m a e;unfold md at e;by_cases c:m∈qs.map (·.1)
 ·rw[A6 c] at e;by_cases d:m∈va.map (·.1)
  ·rw[A6 d] at e;rw[<-e];exact(h.sub m d).2.1
  ·rw[A4 d] at e;cases e
 ·rw[A4 c] at e;erw[MW c,h1,h2];rw[Sy.zi (Qg qs) h1,h2];exact e
def Bj (h:VOk qs va):∀m a,md qs va m=u_ a->Jk (a.getD .non):=by
 intro m a e;unfold md at e;by_cases c:m∈qs.map (·.1)
 ·rw[A6 c] at e;by_cases d:m∈va.map (·.1)
  ·rw[A6 d] at e;cases e;exact .inr (h.sub m d).2.2
  ·rw[A4 d] at e;cases e
 ·rw[A4 c] at e;cases e;exact .inl rfl
def Bi (h:VOk qs va)(U:VLf qs va (qs.map (·.1)))(O:(SyP qs).g0 m=U_):md qs va m=u_ ((SyP qs).once m):=by
 unfold md;by_cases c:m∈qs.map (·.1)
 ·have d:=U m c O;have e:=(h.sub m d).2.1;rw[Sy.zi (Qg qs) O] at e;rw[A6 c,A6 d];exact e.symm
 ·rw[A4 c,(MW c).2]
def DD (h:VOk qs va)(U:VLf qs va (qs.map (·.1)))(hc:∀m∈qs.map (·.1),m∉va.map (·.1)->∀g,g0D m (qG qs m)=u_ g->Yl (Sy.it (SyP qs) (md qs va) 302 g)=U_):∀(k:Nat) (m:Str) (a:oq D),Sy.Fh (SyP qs) k m=u_ a->md qs va m=u_ a
 |0,m,a,e=>by
  cases O:(SyP qs).g0 m with
  |none=>rw[Sy.Xf O] at e;rw[Bi h U O];exact e
  |some g=>rw[Sy.zD O] at e;cases e
 |k+1,m,a,e=>by
  cases O:(SyP qs).g0 m with
  |none=>rw[Sy.Xf O] at e;rw[Bi h U O];exact e
  |some g=>
   have hF:=Sy.F_of (Qg qs) e;rw[Sy.ww O] at e;cases Z:(SyP qs).said (Sy.it (SyP qs) (Sy.Fh (SyP qs) k) (SyP qs).M g) with
   |none=>rw[Z] at e;cases e
   |some v=>
    have e2:=Sy.w6 (Qg qs) (DD h U hc k) Z;have hm:m∈qs.map (·.1):=(Qg qs).gn m g O;have d:m∈va.map (·.1):=Rs λd=>by
     have e3:(SyP qs).said (Sy.it (SyP qs) (md qs va) (SyP qs).M g)=none:=hc m hm d g O;rw[e2,Z] at e3;cases e3
    have e4:=(h.sub m d).2.1;unfold md;rw[A6 hm,A6 d,<-e4];exact hF
def AaJ (h:VOk qs va)(U:VLf qs va (qs.map (·.1)))(Z:∀m∈qs.map (·.1),m∉va.map (·.1)->∀g,g0D m (qG qs m)=u_ g->Yl (Sy.it (SyP qs) (md qs va) 302 g)=U_):md qs va=Sy.F (SyP qs):=by
 funext m
 cases O:Sy.F (SyP qs) m with
 |some a=>
  erw[(Sy.F_iff (Qg qs)).mp O,k,e];exact DD h U Z k m a e
 |none=>
  cases ho:md qs va m with
  |none=>rfl
  |some a=>rw[MK h m a ho] at O;cases O
def VOk.put (h:VOk qs va){v:D}(hm:m∈qs.map (·.1))(U:Sy.F (SyP qs) m=u_ (u_ v))(Z:isT v=v_):VOk qs (mT va m v):=⟨λx O=>by
 rw[KO va m x v (JB.mp O)];by_cases c:x=m
 ·rw[A6 c,c];exact[hm:U:Z]
 ·rw[A4 c];exact h.sub x ((JB.mp O).resolve_left c)⟩
variable {l:om Str}
def VLf.put (h:VLf qs va l)(m:Str)(v:D):VLf qs (mT va m v) l:=λx O U=>JB.mpr (.inr (h x O U))
variable {f:Sy.Orc}{g:Gp}
def IO (U:QQ qs)(Z:∀m a,f m=u_ a->Jk (a.getD .non))(h:GI g):GI (Sy.step (SyP qs) f g):=by
 have e:Sy.step (SyP qs) f g=if g.en.isSome=v_ then g else match Q5 g with
  |none=>m6 qs g
  |some m=>match f m with
   |some a=>QT g (a.getD .non)
   |none=>m8 g m:=rfl
 rw[e];cases O:g.en with
 |some d=>exact h
 |none=>
  rw[A4 (by intro z;cases z)]
  cases hw:Q5 g with
  |none=>exact BD U h O hw
  |some m=>
   show GI (match f m with|some a=>QT g (a.getD .non)|none=>m8 g m)
   cases hm:f m with
   |some a=>exact KZ h O (Z m a hm)
   |none=>exact EL h m
def oQ (O:QQ qs){f:Sy.Orc}(U:∀m a,f m=u_ a->Jk (a.getD .non)):∀(k:Nat) {g:Gp},GI g->GI (Sy.it (SyP qs) f k g)
 |0,_,h=>h
 |k+1,_,h=>oQ O U k (IO O U h)
def Aaq (U:QQ qs)(h:VOk qs va){v:D}(Z:g0D m (qG qs m)=u_ g)(hs:Yl (Sy.it (SyP qs) (md qs va) 302 g)=u_ v):Sy.F (SyP qs) m=u_ (u_ v)/\isT v=true:=by
 have O:(SyP qs).said (Sy.it (SyP qs) (md qs va) 302 g)=u_ v:=hs;have e:=Sy.w6 (Qg qs) (MK h) O;exists ?_,sR (oQ U (Bj h) 302 (oX U Z).1) hs;rw[Sy.F_run (Qg qs) Z];show((SyP qs).said (Sy.it (SyP qs) (Sy.F (SyP qs)) 302 g)).map u_=_;rw[e,O]
 rfl
end
variable {l:om Str}
def Aat (h:∀z∈l,nm z=v_/\↑z<=4):isT (sL l)=decide (↑l<=40):=by
 have O:∀l:om Str,(∀z∈l,nm z=v_/\↑z<=4)->goodL (l.map D.str)=v_/\szL (l.map D.str)<=5*↑l/\dpL (l.map D.str)<=1:=by
  intro l
  induction l with
  |nil=>exact λ_=>⟨1,ug _,by simp[dpL]⟩
  |cons z r U=>
   intro h;obtain⟨Z,i2,i3⟩:=U λy hy=>h y (uc _ hy);erw[h z ue,h1,h2];have g1:Qz z=true:=by unfold Qz;rw[A9 (show ↑z<=300 by omega)];exact kK h1
   refine⟨by simp![ur,goodL,iO,g1,Z,Vb],by simp![ur,szL,sz,uj];omega,by simp![ur,dpL,dp];omega⟩
 erw[O l h,h1,h2,h3];unfold isT sL;by_cases c:↑l<=40
 ·rw[A9 c,A9 (show sz (.tup (l.map D.str))<=600 by simp![sz];omega),A9 (show dp (.tup (l.map D.str))<=12 by simp![dp];omega)]
  simp[iO,h1,c]
 ·rw[ub c];simp[iO,h1,c]
def nX:∀(zs O:om Str),(∀z∈zs,nm z=v_/\↑z<=4)->(∀z∈O,nm z=v_/\↑z<=4)->↑O<=40->sM O zs=O++zs.take (40-↑O)
 | [],O,_,_,_=>by rw[TC,vg];rfl
 |z::r,O,h1,h2,h3=>by
  have h4:∀y∈O++ [z],nm y=v_/\↑y<=4:=λy U=>by
   rcases Af.mp U with U|U
   ·exact h2 y U
   ·cases Ae.mp U;exact h1 z ue
  unfold sM;rw[Aat h4,uq];by_cases c:↑O+1<=40
  ·rw[A6 (A9 (by exact c)),nX r _ (λy U=>h1 y (uc _ U)) h4 (by rw[uq];exact c),uq,show 40-↑O=(40-(↑O+ [z].length))+1 by show 40-↑O=(40-(↑O+1))+1;omega,US,UJ]
   rfl
  ·rw[A4 (by rw[ub (by exact c)];exact ua),show 40-↑O=0 by omega,TV,vg]
section
open PySem.Builtin PySem.Builtin.Str
def Dh (z:Str)(l u:oq Int):↑(gT z l u)<=↑(strSliceIndices l u 1 ↑z):=by
 unfold gT;split
 ·rename_i h
  rw[uu,Vc,Vc] at h;omega
 ·show(List.filterMap _ (strSliceIndices l u 1 ↑z)).toArray.size<=_;rw[ui];exact List.length_filterMap_le _ _
def sTo (z:Str){m:Nat}(h:m<=↑z):(gT z U_ (u_ (m:Int))).cps.toList=z.cps.toList.take m:=by
 have e:gT z U_ (u_ (m:Int))=⟨((z.cps.toList.drop 0).take ((m:Int)-0).toNat).toArray⟩:=StrLaws.sliceText_to ⟨(),by rw[<-qaj];omega⟩
 rw[e];simp
def Ov (z:Str)(m:Nat):↑(gT z U_ (u_ (m:Int)))<=↑z:=by
 refine uL (Dh z U_ (u_ (m:Int))) ?_;unfold strSliceIndices sliceRange;simp![show(1:Int)>0 by decide,Vg,u9,F0]
 (split<;>(try split)<;>(try split)<;>(try simp![FX])<;>omega)
def nE (z y:Str):VA z y=decide (V.str (gT z U_ (u_ (↑y:Int)))=V.str y):=by
 unfold VA;rw[FG,Hu];rcases UV ↑z ↑y with h|h
 ·rw[ub (),T0,ub]
  intro q;have:=Ov z ↑y;rw[V.str.inj q] at this;omega
 ·rw[A9 (),HH]
  have e:=sTo z h;rw[vC,Vc,uR];constructor
  ·intro q;rw[CS (e.trans q)]
  ·intro q;rw[V.str.inj q] at e;exact e.symm
end
nonrec def AE (H:Hp)(d:o6)(o:Obj)(ps:om (Str×D)):Prop:=∃vs:om (Str×V),H d=u_ (.frz o (.dK (iy vs)))/\vs.map (·.1)=ps.map (·.1)/\L2.IsL H (ps.map (·.2)) (vs.map (·.2))
variable {o:Obj}
def AE.same {d:o6}(h:AE H d o ps)(s:ie H H'):AE H' d o ps:=by
 erw[h,vs,h1,h2,h3];exact⟨vs,s _ _ h1,h2,h3.mono s.tk⟩
structure PQ (ps qs:om (Str×D)):Prop where
 pm:qs.Perm ps
 tab:QQ qs
 nd:(ps.map (·.1)).Nodup
 sh:∀p∈ps,↑p.1<=4
def PQ.keys (h:PQ ps qs):z∈qs.map (·.1)↔z∈ps.map (·.1):=(h.pm.map _).mem_iff
def PQ.dat (h:PQ ps qs)(O:z∈ps.map (·.1)):qG qs z=qG ps z:=Mb h.nd h.pm O
def PQ.ok (h:PQ ps qs):∀z∈qs.map (·.1),nm z=v_/\↑z<=4:=λz O=>by
 erw[Ag.mp O,p,U,rfl];exact[h.tab.1.1.1 _ O:h.sh p (h.pm.mem_iff.mp U)]
inductive IV:Sp
 |mk (d:Addr)(o:Obj)(kind text:Str)(ps qs:List (Str×D))(_:vs= [.ref d,.str kind,.str text])(_:AE H d o ps)(_:PQ ps qs)(_:BA kind=v_)(_:↑text<=1000)(_:∀v H',ie H H'->Is H' (xR qs kind text) v->Q v H')
nonrec def rwT (text:Str)(l:om Str):om Str:=(l.filter λz=>VA z text).take 40
def AS {text:Str}:rwT text (l++ [z])=if(VA z text=v_/\↑(rwT text l)<40) then rwT text l++ [z] else rwT text l:=by
 unfold rwT;rw[UA,List.take_append,vw];by_cases c:VA z text=v_
 ·rw[List.filter_cons_of_pos (p:=λz=>VA z text) c,RD];by_cases d:↑(l.filter λz=>VA z text)<40
  ·rw[A6 [c:()],ve (l:= [z]) (by show 1<=_;omega)]
  ·rw[A4 (λh=>d (by have:=h.2;omega)),show 40-↑(l.filter λz=>VA z text)=0 by omega,TV,vg]
 ·rw[List.filter_cons_of_neg (p:=λz=>VA z text) c,RD,TC,vg,A4 (λh=>c h.1)]
def IsL.strs4 {H:Hp}:∀{l:om Str},(∀z∈l,↑z<=4)->L2.IsL H (l.map D.str) (l.map V.str)
 | [],_=>rfl
 |z::r,h=>⟨_,0,yU (by have:=h z ue;omega),IsL.strs4 λy O=>h y (uc _ O)⟩
section
variable {P:og}{w:oh}{K:o0}{mg:Str->oq o7}{base:o9}{a:Ad}{g:Ga}
def Lw:#[T,1,a.Jz,a.Jn,["sources","kind","text"],IV]:=by
 refine T.iI.F.ok yk () (λ_ _ _ s H vs Q E hr h=>?_)
 erw[h,d,o,kind,text,ps,qs,rfl,hS,Z,hk,ao,k];have hs:=uw;erw[hS,vs,hd,ae,af];have am:↑ps<=60:=by rw[<-Z.pm.length_eq];exact Z.tab.2.2
 exists 3,%[#[qK,#[qt,Qk,pv 1,qp],%[|#[qv,#[qJ,QN,#[QA,#v[qp,qp]],#[qR,Iu,T.z_int,boot_int,#v[#[AaG,6,#[kZ,Qs hr,pv 2,pv 0],_]]]]]],qx],#[qD,(3),yk.nd,#[qB,qh]],#[Yh,#[Zd,#[qA,#[KP,1,rfl],T.Z1,Hk,#v[pv 0]]],#[qU,(4),yk.nd],%[|@qK _ _ _ _ _ _ _ _ #[zm,#[qt,Qk,#[Yc,My,pv 4,jl,#[YT,#[qA,JW,T.yh,uH,#v[pv 2]]]],pv 2],#[Jy,#[qt,Cj,#[qA,qL,T.yh,uH,#v[pv 3]],ql]]].pt %[|#[qD,(3),yk.nd,#[qS,Xg,pv 3,#[qB,#v[pv 4]]]]] qx]]|#[qv,pv 3]]
 exists 8,N1,q1
 exists 0,1,0;by_cases c:kind="has"
 ·refine lh (A9 (by rw[c])) [sml rfl:λl hl=>?_]
  have s1:=qi hl (.lst [V.str "no",V.str "yes"])
  exists 0,0,d,0,.inl ⟨_,Vj text,.inr [o:s1 _ _ hd],1,1⟩,.inr [0:?_];rw[At ae af];have hL:xR qs kind text= .str (if text∈ps.map (·.1) then "yes" else "no"):=by
   unfold xR;rw[A6 c];by_cases e:text∈ps.map (·.1)
   ·rw[A6 e,A6 (Z.keys.mpr e)]
   ·rw[A4 e,A4 (λz=>e (Z.keys.mp z))]
  by_cases e:text∈ps.map (·.1)
  ·exists l,_,_,V.str "yes",1,1,SqL.of qk,(by rw[A9 e];rfl),k _ _ s1 ?_
   rw[hL,A6 e];exact yU ()
  ·exists l,_,_,V.str "no",1,1,SqL.of qk,(by rw[ub e];rfl),k _ _ s1 ?_
   rw[hL,A4 e];exact yU ()
 refine iN (ub (λz=>c (V.str.inj z))) (q1 _ _ ?_);exists 8,N2,q2
 exists uG _,λt ht=>q2 _ _ ?_;exists 8,N3,q3;have s1:=qi ht (.tup ([]:om V));have e1:upd H t (.tup []) t=u_ (.tup ((rwT text []).map V.str)):=qk;generalize upd H t (.tup [])=H1 at s1 e1⊢;have ag:(iy vs).map (·.1)=(ps.map (·.1)).map Sum.inr:=by
  rw[<-ae];unfold iy;rw[uN,uN]
  rfl
 exists 5
 refine⟨0,d,iy vs,ps.map (·.1),1,.inr [o:s1 _ _ hd],ag,by rw[u9];omega,λms q ah aa ak=>?_⟩
 have al:ms=qs.map (·.1):=kU aa Z.tab.2.1 (ah.trans (Z.pm.map _).symm);subst al;have s2:=qi ak (.lst ((qs.map (·.1)).map V.str));have e2:=s2 _ _ e1;have ac:upd H1 q (.lst ((qs.map (·.1)).map V.str)) q=u_ (.lst ((qs.map (·.1)).map V.str)):=qk;generalize upd H1 q (.lst ((qs.map (·.1)).map V.str))=H2 at s2 e2 ac⊢
 exists q,1,[_:SqL.of ac];have hok:=Z.ok
 let J_:Nat->L2.St->Hp->Prop:=λi σ H'=>∃(t:o6) (v4:oq V),σ= [u_ (.ref d),u_ (.str kind),u_ (.str text),u_ (.ref t),v4]/\ie H2 H'/\H' t=u_ (.tup ((rwT text ((qs.map (·.1)).take i)).map V.str))
 refine XS (xs:=(qs.map (·.1)).map V.str) J_ ⟨t,U_,1,ie.refl _,e2⟩ (λi σ H' _ h=>by erw[h,_,_,_,s,_];exact SqL.of (s _ _ ac)) ?_ ?_
 ·rintro i y σ H' hy ⟨t',v4,rfl,s3,e3⟩;rw[uD] at hy;cases O:(qs.map (·.1))[i]? with
  |none=>rw[O] at hy;cases hy
  |some z=>
   rw[O] at hy;cases hy;have ap:=hok z (uK O);have et:(qs.map (·.1)).take (i+1)=(qs.map (·.1)).take i++ [z]:=by rw[vb,O];rfl
   exists 0,0,text,1,(),0,0,(),0,1,0
   have no:¬(VA z text=v_/\(rwT text ((qs.map (·.1)).take i)).length<40)->J_ (i+1) [u_ (.ref d),u_ (.str kind),u_ (.str text),u_ (.ref t'),u_ (.str z)] H':=λhn=>⟨t',0,s3,by rwa[et,AS,A4 hn]⟩
   cases U:VA z text with
   |false=>
    refine iN (by rwa[<-nE]) ?_
    exact iN rfl (no (λh=>by rw[U] at h;exact ua h.1))
   |true=>
    refine lh (by rwa[<-nE]) ?_
    exists 0,t',0,.inr (SqT.of e3),_,0,1,0;have ad:((rwT text ((qs.map (·.1)).take i)).map V.str).length=(rwT text ((qs.map (·.1)).take i)).length:=u9 ..;by_cases cl:(rwT text ((qs.map (·.1)).take i)).length<40
    ·refine lh (A9 (by rw[ad];omega)) ?_
     exists 0,0,Adb e3 (by rw[ad];omega) λp2 H3 s4 h4=>?_
     exists p2,0,s3.trans s4;rw[h4,et,AS,A6 [U:cl],uh]
     rfl
    ·refine iN (ub (by rw[ad];omega)) ?_
     exact no (λh=>cl h.2)
 ·rintro σ H' ⟨t',v4,rfl,s3,e3⟩;refine q3 _ _ [0:k _ H' ((s1.trans s2).trans s3) ?_];rw[u9,vy] at e3;have hL:xR qs kind text=sL (rwT text (qs.map (·.1))):=by
   unfold xR;rw[A4 c,nX _ [] (λz O=>hok z (Ah.mp O).1) (λz O=>by cases O) (uG _)]
   rfl
  rw[hL];exact⟨t',0,e3,IsL.strs4 λz O=>(hok z (Ah.mp (vY O)).1).2⟩
inductive IT:Sp
 |mk (d vd:Addr)(o:Obj)(n:Str)(ps qs va:List (Str×D))(g:Gp)(_:vs= [.ref d,.str n,.ref vd])(_:AE H d o ps)(_:PQ ps qs)(_:Yr H vd va)(_:VOk qs va)(_:n∈qs.map (·.1))(_:g0D n (qG qs n)=u_ g)(_:∀v H',ie H H'->Is H' (Xv (Sy.it (SyP qs) (md qs va) 302 g)) v->Q v H')
variable {f:Sy.Orc}
def Sb {n:Str}{g p:Gp}{k:Nat}(O:g0D n (qG qs n)=u_ g)(h:Sy.it (SyP qs) f k g=p)(U:p.en.isSome=v_):Sy.it (SyP qs) f 302 g=p:=by
 have h1:(SyP qs).fin (Sy.it (SyP qs) f k g)=true:=by rwa[h]
 rw[<-h];exact Sy.it_one (Sy.kz (Qg qs) 302 g ((Qg qs).l0 n g O)) h1
def Ex {g p:Gp}{k:Nat}(h:Sy.it (SyP qs) f k g=p):Sy.it (SyP qs) f (k+1) g=Sy.step (SyP qs) f p:=(Sy.Wm (Y:=SyP qs) (f:=f) k g).trans (Ab (Sy.step (SyP qs) f) h)
variable {m:Str}
def qao {p:Gp}(O:p.en=U_)(U:Q5 p=u_ m):Sy.step (SyP qs) f p=match f m with
  |some a=>QT p (a.getD .non)
  |none=>m8 p m:=by
 have e:Sy.step (SyP qs) f p=if p.en.isSome=v_ then p else match Q5 p with
  |none=>m6 qs p
  |some m=>match f m with
   |some a=>QT p (a.getD .non)
   |none=>m8 p m:=rfl
 rw[e,O,U]
 rfl
def NI {p:Gp}(O:p.en=U_)(U:Q5 p=U_):Sy.step (SyP qs) f p=m6 qs p:=by
 have e:Sy.step (SyP qs) f p=if p.en.isSome=v_ then p else match Q5 p with
  |none=>m6 qs p
  |some m=>match f m with
   |some a=>QT p (a.getD .non)
   |none=>m8 p m:=rfl
 rw[e,O,U]
 rfl
variable {va:om (Str×D)}
def ML (h1:m∈qs.map (·.1))(h2:m∉va.map (·.1)):md qs va m=none:=by
 unfold md;rw[A6 h1,A4 h2]
def DC (h:VOk qs va)(h1:¬(m∈qs.map (·.1)/\m∉va.map (·.1))):∃a,md qs va m=u_ a/\(m∈va.map (·.1)->a.getD .non=qG va m)/\(m∉va.map (·.1)->a.getD .non= .non)/\Jk (a.getD .non):=by
 unfold md;by_cases c:m∈qs.map (·.1)
 ·have d:m∈va.map (·.1):=Rs λd=>h1 [c:d];rw[A6 c,A6 d];exact⟨0,λ_=>rfl,λz=>Aa d z,.inr (h.sub m d).2.2⟩
 ·rw[A4 c];exact⟨0,λz=>Aa (h.sub m z).1 c,λ_=>rfl,.inl rfl⟩
def BE {vd:o6}{ws:om (Str×V)}(hd:H vd=u_ (.dK (iy ws)))(O:ws.map (·.1)=va.map (·.1))(U:L2.IsL H (va.map (·.2)) (ws.map (·.2)))(m:Str):∃ov:oq V,mx H vd (.str m) ov/\ov.isSome=decide (m∈va.map (·.1))/\(m∈va.map (·.1)->Is H (qG va m) (ov.getD .non))/\(m∉va.map (·.1)->ov.getD .non= .non):=by
 by_cases c:m∈va.map (·.1)
 ·erw[WW O U c,Z,l2];exact⟨u_ (Jm ws m),by rw[<-Z];exact mx.k (k:=Vj m) hd,by rw[A9 c];rfl,λ_=>l2,λz=>Aa c z⟩
 ·have l0:=An (z:=m) (vs:=ws) (by rw[O];exact c)
  exact⟨U_,by rw[<-l0];exact mx.k (k:=Vj m) hd,by rw[ub c];rfl,λz=>Aa z c,λ_=>rfl⟩
def EN {d:o6}{vs:om (Str×V)}(hd:H d=u_ (.frz o (.dK (iy vs))))(O:vs.map (·.1)=ps.map (·.1))(U:L2.IsL H (ps.map (·.2)) (vs.map (·.2)))(m:Str):∃ov:oq V,mx H d (.str m) ov/\ov.isSome=decide (m∈ps.map (·.1)):=[_:.inl ⟨_,Vj m,.inr [o:hd],1,1⟩:At O U m]
def Lr:#[C,8,a.WN,a.Wb,["sources","name","values"],IT]:=by
 have wD:=#[oF,T,C];have jq:=#[Bk,T,C];have QX:=#[DY,T];have yD:=#[D5,T];have yn:=#[MN,T,C];have Z8:=#[Lw,T];exists 9,T.me,QK,Z
 erw[h,d,vd,o,n,ps,qs,va,gp,rfl,hS,hq,hV,hO,a8,hg,k];have hs:=uw;erw[X4 hq.tab a8,a9,kk,ee,aJ,g1,g2];have b4:=ZX a9;have ba:=hq.keys.mp a8;erw[id hS,bA,hd,aB,aC];erw[WW aB aC ba,l1,l2];rw[<-hq.dat ba,aJ] at l2;erw[l2,ts,ws,bB,aK,w1,r1,rfl,[rfl,b5],w2,r2,rfl,bb,h3];cases(show r2= [] from h3)
 rw[bB] at l1;exists 3,%[#[qD,(3),QK.nd,#[Ql,6,Qs Z,pv 0,pv 1,(λ_ _=>rfl)]],#[qD,(4),QK.nd,#[qJ,qI,pv 3,ql]],#[qD,(5),QK.nd,#[qB,qh]],#[qK,#[qt,Qk,#[qJ,qI,pv 3,ql],qp],%[@qK _ _ _ _ _ _ _ _ #[zm,#[xF,#[kZ,Qs Z,#[qJ,qI,pv 3,ql],pv 0]],#[Jy,#[xF,#[JX,Qs Z,#[qJ,qI,pv 3,ql],pv 2]]]].pt %[|#[qv,#[qB,#v[#[qB,qh],#[qB,#v[qp,#[qJ,qI,pv 3,ql]]]]]]] qx,#[qD,(4),QK.nd,#[Bf,9,Qs Z,pv 2,#[qJ,qI,pv 3,ql],Qe,⟨1,1,1,1⟩]],#[qD,(5),QK.nd,#[qB,#v[#[qB,#v[#[qB,#v[qp,#[qJ,qI,pv 3,ql]]],pv 4]]]]]|#[qK,#[qt,YA,pv 4,Qe],%[|#[qv,#[qB,#v[pv 5,#[qB,#v[qp,qp]]]]]],qx]],qx],#[qK,#[QD,#[Qo,#[qy,16,wD,Z.mono (),_,T.lK.m,T.lK.F.kp,T.lK.b,.nil,qH,#v[pv 4],_,_,_]]],%[|#[qv,#[qB,#v[pv 5,#[qB,#v[qp,qp]]]]]],qx],#[qD,(6),QK.nd,#[Za,T.M_Machine,jq,Z.mono (),T.m_Machine,T.ld,AaI,#v[pv 4,pv 1]]],#[ji,#[qt,Qk,#[qJ,JI,#[QL,pv 6,T.qw,T.iE,QX,Z.mono ()],ql],qp],%[#[Be,6,#[qJ,JI,#[QL,pv 6,T.qw,T.iE,QX,Z.mono ()],ql],#[Du,6,rfl,YD #[qU,(7),QK.nd] (YD #[qU,(8),QK.nd] Kl),_,_],_,_,_],@qK _ _ _ _ _ _ _ _ #[zm,#[qt,Qk,pv 7,qp],#[zm,#[xF,#[kZ,Qs Z,pv 8,pv 0]],#[Jy,#[xF,#[JX,Qs Z,pv 8,pv 2]]]]].pt %[|#[qv,#[qB,#v[#[qS,Xg,pv 5,#[QL,pv 6,T.qw,T.iJ,yD,Z.mono ()]],#[qB,#v[qp,pv 8]]]]]] qx|#[qK,#[qt,Qk,pv 7,qp],%[|#[Qd,#[Qw,20,pv 6,T.qw,T.io.h,yn,Z.mono (),T.io.b,.nil,qH,#v[#[Bf,9,Qs Z,pv 2,pv 8,Qe,⟨1,1,1,1⟩]],_,_,_]]],%[|#[Qd,#[Qw,20,pv 6,T.qw,T.io.h,yn,Z.mono (),T.io.b,.nil,qH,#v[#[qy,16,Z8,Z.mono (),_,T.iI.m,T.iI.F.kp,T.iI.b,.nil,qH,#v[pv 0,pv 7,pv 8],_,_,_]],_,_,_]]]]]]|#[qv,#[qB,#v[#[qS,Xg,pv 5,#[QL,pv 6,T.qw,T.iJ,yD,Z.mono ()]],#[QL,pv 6,T.qw,T.iE,QX,Z.mono ()]]]]]
 exists 8,N1,q1
 exists 0,0,d,0,.inl ⟨_,Vj n,.inr [o:hd],1,l1.symm⟩,q1 _ _ ?_;exists 8,N2,q2
 exists 0,ts,_,_,0,1,SqT.of aK,1,q2 _ _ ?_;exists 8,N3,q3
 exists uG _,λt0 bc=>q3 _ _ ?_;have s0:=qi bc (.tup ([]:om V));have i0:Is (upd H t0 (.tup [])) (.tup []) (.ref t0):=Is.new (ds:= []) rfl bc;generalize upd H t0 (.tup [])=H0 at s0 i0⊢;exists 8,N4,q4;have out:∀(p:Gp) (j:Nat) (v1 v2:V) (H':Hp),Sy.it (SyP qs) (md qs va) j gp=p->p.en.isSome=v_->ie H H'->Is H' (.tup (p.ra++nU p.run)) v1->Is H' (p.en.getD .non) v2->∀t,H' t=U_->Q (.ref t) (upd H' t (.tup [v1,v2])):=λp j v1 v2 H' h1 h2 s' i1 i2 t ht=>by
  refine k _ _ (s'.trans (qi ht _)) ?_;rw[Sb hg h1 h2];exact Is.new (ds:= [.tup (p.ra++nU p.run),p.en.getD .non]) ⟨_,0,i1,_,0,i2,1⟩ ht
 have bd:∀(rv av:V) (rd mb:D) (ra:om D) (H1:Hp) (j:Nat),ie H H1->Is H1 rd rv->XG rd=Vh->Is H1 (.tup ra) av->↑ra<=1->Sy.it (SyP qs) (md qs va) j gp=mV ⟨n,mb,ra,U_,U_⟩ rd->N4 [u_ (.ref d),u_ (.str n),u_ (.ref vd),u_ (.ref ts),u_ rv,u_ av,U_,U_,U_] H1:=by
  intro rv av rd mb ra H1 j s1 ir aF ia bX au;refine q4 _ _ ?_;exists 8,N5,q5
  exists 0,rv,rd,1,ir,λH2 s2=>[0:?_];have af:=s1.trans s2;have be:=oQ hq.tab (Bj hO) j (oX hq.tab hg).1;rw[au] at be;cases Z:ya rd with
  |none=>
   refine lj ?_;have hp:mV ⟨n,mb,ra,U_,U_⟩ rd=⟨n,mb,ra,U_,u_ (flt "rule")⟩:=by
    unfold mV;rw[aF,A4 ua,Z]
   rw[hp] at au
   exists 0,sml rfl,λt1 h1=>[sml rfl:?_];have m1:=qi h1 (.tup [V.str "fault",V.str "rule"]);refine out _ j av (.ref t1) _ au rfl (af.trans m1) ?_ (Is.new (ds:= [.str "fault",.str "rule"]) ⟨_,0,yU (),_,0,yU (),1⟩ h1)
   show Is _ (.tup (ra++ [])) av;rw[vg];exact(ia.mono s2.tk).mono m1.tk
  |some rs=>
   refine iW (q5 _ _ ?_);erw[AZ Z,hR,bC];subst bC;have hp:mV ⟨n,mb,ra,U_,U_⟩ (Jr rs)=⟨n,mb,ra,u_ (rs,R0 rs n),mi (R0 rs n)⟩:=by
    unfold mV;rw[aF,A4 ua,Z]
   rw[hp] at au be;exists 8,N6,q6
   exists 0,0,λx dx hx bD nx=>?_;have m0:ie H2 (upd (upd H2 dx (.own x)) x (.ins a.qr dx [])):=λb ob h=>by rwa[qm (qo h hx),qm (qo h bD)]
   exists x,dx,rv,.str n,Jr rs,.str n,1,qk,(ir.mono s2.tk).mono m0.tk,yU (),λz=>?_,λ_ z=>?_,λO bY e1 bE e2 b6 b7 H3 db dg kept bf bg hM=>[1:q6 _ _ ?_]
   ·rw[Z] at z;cases z
   ·rw[show mK (.str n)=v_ from a9] at z
    cases z
   have e3:O=rs:=by
    have h1:=hR.read;rw[e1,bE.read] at h1;exact uF h1
   cases e2;subst e3;have s3:ie H2 H3:=λb ob h=>kept b ob (m0 b ob h) (qo h hx);have b8:=af.trans s3;have fx:H x=none:=af.free hx;have fb:H db=none:=af.free (m0.free bf);have fg:H dg=none:=af.free (m0.free bg);have b9:=(ia.mono s2.tk).mono s3.tk;have x2:H2 x=none:=hx;have b2:H2 db=none:=m0.free bf;have bF:H2 dg=none:=m0.free bg;exists 8,N7,q7
   let J_:Nat->L2.St->Hp->Prop:=λmm σ H'=>∃(i:Nat) (r:Rn) (u7 u8:oq V),mm=nw ⟨n,mb,ra,u_ (O,r),mi r⟩/\σ= [u_ (.ref d),u_ (.str n),u_ (.ref vd),u_ (.ref ts),u_ rv,u_ av,u_ (.ref x),u7,u8]/\ie H2 H'/\yR a.qr H' ⟨x,db,dg,O,n⟩ r/\Sy.it (SyP qs) (md qs va) i gp=⟨n,mb,ra,u_ (O,r),mi r⟩
   exists J_,⟨_,j,R0 O n,U_,U_,1,1,s3,hM,au⟩;rintro mm σ H4 ⟨i,r,u7,u8,rfl,rfl,s4,aa,aw⟩;have aG:=oQ hq.tab (Bj hO) i (oX hq.tab hg).1;rw[aw] at aG;erw[aG.run O r rfl,bh,aD,bo,hW];have ca:=af.trans s4;have bp:=(ia.mono s2.tk).mono s4.tk;have bq:=aa;erw[bq,ag,ac,_,_,_,_,ah,bG,_];have bH:∃w0 e0,r.th= .tup [.str w0,e0]:=by
    rcases bo with⟨z,h⟩|⟨e,h,_⟩|⟨u,z,h,_⟩
    ·exact[_:_:h]
    ·exact[_:_:h]
    ·exact[_:_:h]
   erw[bH,w0,e0,aL];have fin:∀(H':Hp),ie H2 H'->ie H H':=λH' s'=>af.trans s';have bI:∀{H5 H6:Hp},ie H2 H5->Mv ⟨x,db,dg,O,n⟩ H5 H6->ie H2 H6:=λs' mv b ob e=>mv.kept b ob (s' b ob e) (qo e x2) (qo e b2) (qo e bF);have ak:∀m∈MTH,ac.lookup m=none:=bG.meth;have bt:↑ra+↑r.gs<=1000:=by have:=aD.gs.2.2;have:=aD.n;omega
   exists 0,x,ag,ac,1,ah,ak _ (),⟨x,db,dg,O,n⟩,r,1,aa,λv4 i4=>?_
   rw[aL] at i4;erw[i4,p4,cb,rfl,bJ,y1,cc,rfl,[rfl,cd],y2,bK,rfl,ce,h5];cases(show bK= [] from h5)
   refine .inr (.inl ⟨p4,_,_,0,1,SqT.of bJ,1,1,0,?_⟩);by_cases cw:w0="asks"
   ·refine lh (A9 (by rw[cw])) ?_
    have al:QP r.th=true:=by rw[aL,cw];rfl
    have am:mi r=none:=by unfold mi;rw[A6 al]
    obtain⟨u,z,ap,bL,bM⟩:∃(u z:Str),r.th= .tup [.str "asks",.tup [.str u,.str z]]/\isT (.str z)=v_/\(u="names"∨(u="thing"∨u="has")/\nm z=v_):=by
     rcases bo with⟨y,h⟩|⟨e,h,_⟩|h
     ·rw[h] at al;exact Aa al (show¬decide (("fault":Str)="asks")=v_ by decide+kernel)
     ·rw[h] at al;exact Aa al (show¬decide (("said":Str)="asks")=v_ by decide+kernel)
     ·exact h
    have bN:↑z<=300:=by
     have:=yl bL;simp![iO,Qz,uu,uR] at this;exact this.1
    have bu:xr ⟨n,mb,ra,u_ (O,r),mi r⟩= .tup [.str u,.str z]:=by
     show wm r.th=_;rw[ap]
     rfl
    have ax:Q5 ⟨n,mb,ra,u_ (O,r),mi r⟩=if BA u=v_ then U_ else u_ z:=by
     unfold Q5;rw[bu]
    have nxt:=Ex aw
    exists λσ' H'=>∃m',m'<nw ⟨n,mb,ra,u_ (O,r),mi r⟩/\J_ m' σ' H',λ_ _ h=>h;have more:∀(dv:D) (u7 u8:oq V) (H5:Hp),Sy.step (SyP qs) (md qs va) ⟨n,mb,ra,u_ (O,r),mi r⟩=QT ⟨n,mb,ra,u_ (O,r),mi r⟩ dv->Mv ⟨x,db,dg,O,n⟩ H4 H5->yR a.qr H5 ⟨x,db,dg,O,n⟩ (mS O n r dv)->∃m',m'<nw ⟨n,mb,ra,u_ (O,r),mi r⟩/\J_ m' [u_ (.ref d),u_ (.str n),u_ (.ref vd),u_ (.ref ts),u_ rv,u_ av,u_ (.ref x),u7,u8] H5:=λdv u7 u8 H5 e1 mv aM=>
     ⟨_,Kt (g:=⟨n,mb,ra,u_ (O,r),mi r⟩) am dv,i+1,mS O n r dv,_,0,1,bI s4 mv,aM,nxt.trans e1⟩
    show mX _ _ _ _ H4;exists 8,B1,b1
    exists 0,x,ag,ac,1,ah,ak _ (),⟨x,db,dg,O,n⟩,r,1,aa,λv5 i5=>?_
    rw[ap] at i5;erw[i5,p5,cf,rfl,bO,y3,cg,rfl,_,y4,bP,rfl,[p6,ch,rfl,bQ,y5,ci,rfl,[rfl,cj],y6,bR,rfl,[rfl,bZ],h6],h7];cases(show bP= [] from h7)
    cases(show bR= [] from h6)
    refine .inr (.inl ⟨p5,_,_,0,1,SqT.of bO,1,p6,0,SqT.of bQ,1,_,0,_,0,1,b1 _ _ ?_⟩);exists 8,B2,b2;erw[hV,bS,aN,aO,aP];have ao:=fin H4 s4;have aH:=ao _ _ aN;have bv:=aP.mono ao.tk;erw[BE aH aO bv z,ov,ay,aA,aQ,aR];erw[EN (ao _ _ hd) aB (aC.mono ao.tk) z,ow,aS,ad]
    exists 0,1,0;by_cases cu:u="thing"
    ·refine lh (A9 (by rw[cu])) ?_
     have aq:Q5 ⟨n,mb,ra,u_ (O,r),mi r⟩=u_ z:=by rw[ax,cu];rfl
     have go:¬(z∈qs.map (·.1)/\z∉va.map (·.1))->B2 [u_ (.ref d),u_ (.str n),u_ (.ref vd),u_ (.ref ts),u_ rv,u_ av,u_ (.ref x),u_ (.str u),u_ (.str z)] H4:=by
      intro aT;refine b2 _ _ ?_;erw[DC hO aT,oa,aU,aV,aW,aX]
      exists 0,1,0,lh (A9 (by rw[cu])) ?_
      have aE:Is H4 (oa.getD .non) (ov.getD .non):=by
       by_cases c:z∈va.map (·.1)
       ·rw[aV c];exact aQ c
       ·rw[aW c,aR c];exact rfl
      have bT:Cw u (oa.getD .non)=true:=by
       rw[cu];unfold Cw;rcases aX with h|h
       ·rw[h];decide+kernel
       ·cases ck:XG (oa.getD .non) with
        |true=>rw[A6 rfl];decide+kernel
        |false=>rw[A4 ua,A6 h,A4 (show¬("thing":Str)="has" by decide+kernel),A9 rfl];rfl
      exists 0,x,ag,ac,1,ah,ak _ (),0,vd,1,.inl [_:.inl aH],0,ov,ay,⟨x,db,dg,O,n⟩,r,_,u,.str z,oa.getD .non,1,aa,aD,ap,aE,bh,(),bT,λH5 mv aM=>?_
      refine more _ _ _ H5 ?_ mv aM;rw[qao am aq,aU]
     exists 0,0,d,ow,1,aS,0;by_cases c1:z∈ps.map (·.1)
     ·refine lh (by rw[ad];exact A9 c1) ?_
      exists 0,0,vd,ov,1,ay,0;by_cases c2:z∈va.map (·.1)
      ·refine iN (by rw[aA,A9 c2];rfl) ?_
       exact go (λh=>h.2 c2)
      ·refine lh (by rw[aA,ub c2];rfl) ?_
       have bU:Sy.it (SyP qs) (md qs va) (i+1) gp=m8 ⟨n,mb,ra,u_ (O,r),mi r⟩ z:=by rw[nxt,qao am aq,ML (hq.keys.mpr c1) c2]
       exists 0,0,x,ag,ac,1,ah,ak _ (),⟨x,db,dg,O,n⟩,r,1,aa,λv6 H6 s6 i6=>?_
       refine AB (bp.mono s6.tk) i6 bt λv7 H7 s7 i7=>?_
       exists 0,sml rfl,λt1 h1=>[sml rfl:?_];have m1:=qi h1 (.tup [V.str "stuck",V.str z]);exact out _ (i+1) v7 (.ref t1) _ bU rfl (((ao.trans s6).trans s7).trans m1) (i7.mono m1.tk) (Is.new (ds:= [.str "stuck",.str z]) ⟨_,0,yU (),_,0,yU (),1⟩ h1)
     ·refine iN (by rw[ad];exact ub c1) ?_
      exact iN rfl (go (λh=>c1 (hq.keys.mp h.1)))
    ·refine iN (ub (λy=>cu (V.str.inj y))) ?_;refine iN rfl (b2 _ _ ?_)
     exists 0,1,0,iN (ub (λy=>cu (V.str.inj y))) ?_;have aY:BA u=true:=by
      rcases bM with h|⟨h|h,_⟩
      ·rw[h];decide+kernel
      ·exact Aa h cu
      ·rw[h];decide+kernel
     have aq:Q5 ⟨n,mb,ra,u_ (O,r),mi r⟩=none:=by rw[ax,A6 aY]
     exists 0,x,ag,ac,1,ah,ak _ (),0,0,0,d,o,u,z,ps,qs,1,⟨bA,ao _ _ hd,aB,aC.mono ao.tk⟩,hq,aY,(),λv6 H6 s6 i6=>?_
     exists ⟨x,db,dg,O,n⟩,r,_,u,.str z,xR qs u z,1,aa.same s6,aD,ap,i6,bh,(),(KH hq.tab z aY).2,λH7 mv bV=>?_
     refine more _ _ _ H7 ?_ ((Mv.of s6).trans mv) bV;rw[NI am aq];show m6 qs _=_;unfold m6;rw[bu]
   ·refine iN (ub (λy=>cw (V.str.inj y))) (q7 _ _ ?_);have al:QP r.th=false:=by rw[aL];exact ub cw
    have am:mi r=u_ r.th:=by unfold mi;rw[al,A4 ua]
    exists 0,0,x,ag,ac,1,ah,ak _ (),⟨x,db,dg,O,n⟩,r,1,aa,λv6 H6 s6 i6=>?_
    refine AB (bp.mono s6.tk) i6 bt λv7 H7 s7 i7=>?_;have aZ:=s6.trans s7
    exists 0,x,ag,ac,1,aZ _ _ ah,ak _ (),⟨x,db,dg,O,n⟩,r,1,aa.same aZ,λv8 i8=>[sml rfl:?_]
    refine out _ i v7 v8 H7 aw (by show(mi r).isSome=v_;rw[am];rfl) ((fin H4 s4).trans aZ) i7 ?_
    show Is H7 ((mi r).getD .non) v8;rwa[am]
 exists 0,ts,_,_,0,1,SqT.of (s0 _ _ aK),1,1,0;by_cases cm:kk="made"
 ·refine lh (A9 (by rw[cm])) ?_
  erw[g1 cm,z,rfl,bW];obtain⟨rfl,bN⟩:=(show w2= .str z/\↑z<=Vl from bb)
  have b3:=ZX bW;have a4:gp=⟨n,.str z,[],U_,U_⟩:=by
   rw[aJ,cm] at hg;exact(uF hg).symm
  subst a4;have ax:Q5 ⟨n,.str z,[],U_,U_⟩=u_ z:=rfl;have nxt:Sy.it (SyP qs) (md qs va) (0+1) ⟨n,.str z,[],U_,U_⟩=Sy.step (SyP qs) (md qs va) ⟨n,.str z,[],U_,U_⟩:=Ex rfl;erw[id hV,bS,aN,aO,aP];have aI:=s0 _ _ aN;erw[BE aI aO (aP.mono s0.tk) z,ov,ay,aA,aQ,aR];erw[EN (s0 _ _ hd) aB (aC.mono s0.tk) z,ow,aS,ad];have ae:=s0 _ _ aK;show mX _ _ _ _ H0;exists 8,A1,a1;have go:¬(z∈qs.map (·.1)/\z∉va.map (·.1))->A1 [u_ (.ref d),u_ (.str n),u_ (.ref vd),u_ (.ref ts),u_ (.str z),u_ (.ref t0),U_,U_,U_] H0:=by
   intro aT;refine a1 _ _ ?_;erw[DC hO aT,oa,aU,aV,aW,aX];have aE:Is H0 (oa.getD .non) (ov.getD .non):=by
    by_cases c:z∈va.map (·.1)
    ·rw[aV c];exact aQ c
    ·rw[aW c,aR c];exact rfl
   rw[qao rfl ax,aU] at nxt;exists 8,A2,a2
   exists 0,vd,1,.inl [_:.inl aI],0,ts,_,_,0,1,SqT.of ae,1,ov,ay,a2 _ _ ?_;exists 8,A3,a3
   exists 0,ts,_,_,0,1,SqT.of ae,1,sml rfl,λt1 h1=>[0:sml rfl:λt2 h2=>[sml rfl:λt3 h3=>a3 _ _ ?_]];have m1:=qi h1 (.tup [V.str "rule",V.str z]);have m2:=qi h2 (.tup [V.ref t1,ov.getD .non]);have m3:=qi h3 (.tup [V.ref t2]);have i1:=Is.new (ds:= [.str "rule",.str z]) ⟨_,0,yU (),_,0,yU (),1⟩ h1
   have i2:=Is.new (ds:= [.tup [.str "rule",.str z],oa.getD .non]) ⟨_,0,i1,_,0,aE.mono m1.tk,1⟩ h2;have i3:=Is.new (ds:= [.tup [.tup [.str "rule",.str z],oa.getD .non]]) ⟨_,0,i2,1⟩ h3;have a5:=(m1.trans m2).trans m3;have U:=aE.mono a5.tk;have a6:=s0.trans a5;generalize upd (upd (upd H0 t1 (.tup [V.str "rule",V.str z])) t2 (.tup [V.ref t1,ov.getD .non])) t3 (.tup [V.ref t2])=H3 at a5 i3 U a6⊢;have a7:Sy.it (SyP qs) (md qs va) (0+1) ⟨n,.str z,[],U_,U_⟩=mV ⟨n,.str z,[.tup [.tup [.str "rule",.str z],oa.getD .non]],U_,U_⟩ (oa.getD .non):=nxt
   exists 0,1,0;rcases aX with h|h
   ·rw[h] at U a7 i3;cases bw:ov.getD .non with
    |non=>
     refine lh (A9 rfl) ?_
     exists 0,sml rfl,λt4 h4=>[sml rfl:?_];have m4:=qi h4 (.tup [V.str "fault",V.str "lack"]);exact out _ _ (.ref t3) (.ref t4) _ a7 rfl (a6.trans m4) (i3.mono m4.tk) (Is.new (ds:= [.str "fault",.str "lack"]) ⟨_,0,yU (),_,0,yU (),1⟩ h4)
    |_=>rw[bw] at U;cases(show _=V.non from U)
   ·have bx:ov.getD .non≠ .non/\XG (oa.getD .non)=false:=by
     generalize oa.getD .non=dd at h U;cases dd with
     |str y=>exact⟨λe=>(by rw[e] at U;cases U.1),1⟩
     |tup ys=>exact⟨λe=>(by rw[e] at U;erw[U,_,_,e2,_];cases e2),1⟩
     |non=>exact Aa h ()
     |bl b=>exact Aa (yl h) (show¬Vh=v_ by decide)
     |int b=>exact Aa (yl h) (show¬Vh=v_ by decide)
     |lst=>exact Aa h ()
     |dct=>exact Aa h ()
    refine iN (ub bx.1) ?_;exact bd _ (.ref t3) (oa.getD .non) (.str z) _ H3 (0+1) a6 U bx.2 i3 (ug _) a7
  exists 0,ts,_,_,0,1,SqT.of ae,1,0,d,ow,1,aS,0;by_cases c1:z∈ps.map (·.1)
  ·refine lh (by rw[ad];exact A9 c1) ?_
   exists 0,ts,_,_,0,1,SqT.of ae,1,0,vd,ov,1,ay,0;by_cases c2:z∈va.map (·.1)
   ·refine iN (by rw[aA,A9 c2];rfl) ?_
    exact go (λh=>h.2 c2)
   ·refine lh (by rw[aA,ub c2];rfl) ?_
    rw[qao rfl ax,ML (hq.keys.mpr c1) c2] at nxt
    exists uG _,λt1 h1=>?_;have m1:=qi h1 (.tup ([]:om V))
    exists 0,ts,_,_,0,1,SqT.of (m1 _ _ ae),1,sml rfl,λt2 h2=>[sml rfl:?_];have m2:=qi h2 (.tup [V.str "stuck",V.str z]);exact out _ _ (.ref t1) (.ref t2) _ nxt rfl ((s0.trans m1).trans m2) ((Is.new (ds:= []) rfl h1).mono m2.tk) (Is.new (ds:= [.str "stuck",.str z]) ⟨_,0,yU (),_,0,yU (),1⟩ h2)
  ·refine iN (by rw[ad];exact ub c1) ?_
   exact iN rfl (go (λh=>c1 (hq.keys.mp h.1)))
 ·refine iN (ub (λz=>cm (V.str.inj z))) ?_;have a4:gp=mV ⟨n,.non,[],U_,U_⟩ ee:=by
   rw[aJ] at hg;unfold g0D at hg;simp only at hg;by_cases cl:kk="leaf"
   ·rw[A6 cl] at hg;cases hg
   ·rw[A4 cl,A4 cm] at hg;exact(uF hg).symm
  have hT:=(g2 cm).2;refine bd w2 (.ref t0) ee .non [] H0 0 s0 (bb.mono s0.tk) ?_ i0 (uG _) a4;cases ee with
  |non=>exact Aa hT ()
  |_=>rfl
def XD:∀{l m:om Str},l.Nodup->(∀x∈l,x∈m)->↑l<=↑m
 | [],m,_,_=>uG _
 |x::r,m,hn,hs=>by
  rw[U1] at hn;have O:=hs x ue;have h:=XD (l:=r) (m:=m.erase x) hn.2 (λy U=>(List.mem_erase_of_ne (λz=>hn.1 (by rwa[<-z]))).mpr (hs y (uc _ U)))
  rw[List.length_erase_of_mem O] at h;have:0<↑m:=List.length_pos_of_mem O;rw[uj];omega
def BL {d:o6}{o:Obj}{kvs:om (Key×V)}{g:TG}{tb:TS}{D:mW}{σ:L2.St}{H:Hp}(U:Nat->L2.St->Hp->Prop)(h0:U 0 σ H)(hl:∀i σ H,i<=↑kvs->U i σ H->H d=u_ (.frz o (.dK kvs)))
  (hs:∀i p σ H,kvs[i]? =u_ p->U i σ H->g (kV p.1) σ H λZ H2=>tb {D with nx:=U (i+1),ct:=U (i+1),bk:=D.nx} Z H2) (hd:∀σ H,U ↑kvs σ H->D.nx σ H):
  ∃W:Nat->Nat->L2.St->Hp->Prop,(∃m,W 0 m σ H)/\∀i m σ H,W i m σ H->
   ((Itd d o).stop i H/\D.nx σ H)∨((Itd d o).go i H/\∃N:L2.St->Hp->Prop,(∀σ' H',N σ' H'->∃m',m'<m/\W (i+1) m' σ' H')/\∀x H',(Itd d o).yld i H x H'->g x σ H' λZ H2=>tb {D with nx:=N,ct:=N,bk:=D.nx} Z H2):=by
 exists λi m σ H=>m=↑kvs-i/\i<=↑kvs/\U i σ H,⟨↑kvs,by simp,uG _,h0⟩
 rintro i m σ H ⟨rfl,hi,p⟩;have q:=hl i σ H hi p;by_cases O:i<↑kvs
 ·refine .inr ⟨[kvs:q:O],U (i+1),λσ' H' p'=>⟨↑kvs-(i+1),(),1,O,p'⟩,λx H' y=>?_⟩
  erw[y,rfl,y];have y:=y kvs q;rw[uD,uf O] at y;cases y;exact hs i _ σ _ (uf O) p
 ·have e:i=↑kvs:=by omega
  subst e;exact .inl [[kvs:q:ug _]:hd σ H p]
def PX {K:o0}{a A:o6}{H1:Hp}{tc:TT}{te:TE}{tl:L2.St}{Q:VK}{ls:om Str}(p:Str->Bool)(ha:H1 a=u_ (.lst (ls.map V.str)))(hn:↑ls<=Vl)(hA:H1 A=U_)
  (ac:∀z H (R:Bool->Hp->Prop),z∈ls->ie H1 H->R (p z) H->tc (u_ (.str z)::tl) H R)
  (ad:∀x H (R:VK),R x H->te (u_ x::tl) H R)
  (hQ:∀H',ie H1 H'->H' A=u_ (.lst ((ls.reverse.filter p).map V.str))->Q (.ref A) H'):Es A (Ab7 K a ↑(ls.map V.str)) (Y5 0) tc te (U_::tl) H1 Q:=by
 have aa:↑(ls.map V.str)=↑ls:=u9 ..;have ae:↑ls.reverse=↑ls:=vM;exists ↑ls,λi σ ys H=>(∃w,σ=w::tl)/\ys=((ls.reverse.take i).filter p).map V.str/\ie H1 H,hn,[[U_:1]:1:qi hA _],?_,?_
 ·rintro i σ ys H hi ⟨⟨w,rfl⟩,rfl,sm⟩ U af;have O:i<↑ls.reverse:=by omega
  have e0:(ls.map V.str)[↑(ls.map V.str)-1-i]? =u_ (V.str (ls.reverse[i]'O)):=by
   rw[uD,aa,uf (),List.getElem_reverse]
   rfl
  exists ⟨(),_,SqL.of (sm _ _ ha),1⟩
  rintro x H' ⟨rfl,hx⟩;have e:=hx _ (SqL.of (sm _ _ ha));rw[e0] at e;cases e;have et:ls.reverse.take (i+1)=ls.reverse.take i++ [ls.reverse[i]'O]:=by rw[vb,uf O];rfl
  have Z:ls.reverse[i]'O∈ls:=List.mem_reverse.mp (uW O);generalize ls.reverse[i]'O=z at et Z⊢
  try dsimp![Y5,GG]
  refine ac z H' _ Z sm ?_;cases hp:p z with
  |true=>
   refine lj (ad _ H' _ ⟨U,⟨0⟩,?_,λc o e=>?_⟩)
   ·rw[et,UA];have: [z].filter p= [z]:=by simp[hp]
    rw[this,uh]
    rfl
   ·rw[qm (qo e hA)];exact sm _ _ e
  |false=>
   refine iW ⟨U,⟨0⟩,?_,sm⟩;rw[et,UA];have: [z].filter p= []:=by simp[hp]
   rw[this,vg]
 ·rintro σ ys H ⟨_,rfl,sm⟩ U;rw[<-ae,vy] at U;exact[aa.symm:hQ H sm U]
def MD {β:Type}{ps:om (Str×β)}{e:β}(h:(ps.map (·.1)).Nodup):((mT ps z e).map (·.1)).Nodup:=by
 unfold mT;by_cases c:z∈ps.map (·.1)
 ·rwa[A6 c,Z6]
 ·rw[A4 c,uh,Tp];exists h,by simp,λa ha b O e=>?_
  cases Ae.mp O;rw[e] at ha;exact c ha
structure BW (qs rr:om (Str×D))(l:om Str):Prop where
 keys:∀m,m∈rr.map (·.1)↔m∈l/\g0D m (qG qs m)≠U_
 dat:∀m g,m∈l->g0D m (qG qs m)=u_ g->qG rr m=Xv (Sy.it (SyP qs) (Sy.F (SyP qs)) 302 g)
inductive C9:Sp
 |mk (d:Addr)(o:Obj)(ps qs:List (Str×D))(_:vs= [.ref d])(_:AE H d o ps)(_:PQ ps qs)(_:∀(t vd rd:Addr)(rr:List (Str×D))(H':Hp),ie H H'->H' t=u_ (.tup [.ref vd,.ref rd])->Yr H' rd rr->BW qs rr (qs.map (·.1))->Q (.ref t) H')
def wX {kk:Str}{ee:D}:g0D m (.tup [.str kk,ee])=U_↔kk="leaf":=by
 unfold g0D;simp only;constructor
 ·intro h;by_cases c:kk="leaf"
  ·exact c
  ·rw[A4 c] at h;split at h<;>cases h
 ·intro h;rw[A6 h]
structure Rds (ls:om Str)(qs va:om (Str×D))(wl:om Str):Prop where
 ok:VOk qs va
 lf:VLf qs va ls
 nd:(va.map (·.1)).Nodup
 wt:∀m,m∈wl↔m∈ls/\m∉va.map (·.1)
 len:↑wl<=60
def Sn {p:Gp}(h:GI p)(Z:p.en.isSome=v_):∃w e,p.en=u_ (.tup [.str w,e])/\(w="said"->Yl p=u_ e)/\(w≠"said"->Yl p=U_):=by
 cases U:p.en with
 |none=>rw[U] at Z;cases Z
 |some d=>
  have O:∀w e,d= .tup [.str w,e]->Yl p=if w="said" then u_ e else none:=λw e hd=>by
   unfold Yl;rw[U,hd]
   rfl
  rcases h.en d U with⟨z,hd⟩|⟨e,hd,_⟩|⟨z,hd⟩
  ·exact⟨_,_,by rw[hd];rfl,λc=>by rw[O _ _ hd,A6 c],λc=>by rw[O _ _ hd,A4 c]⟩
  ·exact⟨_,_,by rw[hd],λc=>by rw[O _ _ hd,A6 c],λc=>by rw[O _ _ hd,A4 c]⟩
  ·exact⟨_,_,by rw[hd],λc=>by rw[O _ _ hd,A6 c],λc=>by rw[O _ _ hd,A4 c]⟩
def DT:#[C,9,a.Jx,a.JL,["sources"],C9]:=by
 have wJ:=#[Lr,T,C];exists 9,T.lW,qV
 erw[h,d,o,ps,qs,rfl,hS,hq,k];have hs:=uw;erw[id hS,aa,hd,aZ,bw];have a1:↑ps<=60:=by rw[<-hq.pm.length_eq];exact hq.tab.2.2
 have aH:(iy aa).map (·.1)=(ps.map (·.1)).map Sum.inr:=by
  rw[<-aZ];unfold iy;rw[uN,uN]
  rfl
 have aP:↑(iy aa)=(ps.map (·.1)).length:=by
  have:=Ab VC aH
  simpa using this
 have bT:(qs.map (·.1)).Nodup:=hq.tab.1.1.2;obtain⟨ls,aI⟩:∃ls,ls=ps.map (·.1):=⟨0⟩;have ae:∀m,m∈ls↔m∈qs.map (·.1):=λm=>by rw[aI];exact hq.keys.symm
 have bx:↑ls<=60:=by rwa[aI,u9]
 rw[<-aI] at aH aP;have a2:∀{va:om (Str×D)},VOk qs va->(va.map (·.1)).Nodup->↑va<=60:=λ{va} h1 h2=>by
  have:=XD h2 (λx hx=>(h1.sub x hx).1);rw[u9,u9] at this;exact uL this hq.tab.2.2
 have a3:∀{i:Nat}{p:Key×V},(iy aa)[i]? =u_ p->∃z,p.1=Vj z/\ls[i]? =u_ z:=λ{i p} h=>by
  have h1:((iy aa).map (·.1))[i]? =u_ p.1:=by rw[uD,h];rfl
  rw[aH,uD] at h1;cases Z:ls[i]? with
  |none=>rw[Z] at h1;cases h1
  |some z=>rw[Z] at h1;exact[z:(uF h1).symm:1]
 have a4:∀(z:Str) (H':Hp),z∈ls->ie H H'->∃(ts:o6) (kk:Str) (w2:V) (ee:D),mx H' d (.str z) (u_ (.ref ts))/\H' ts=u_ (.tup [.str kk,w2])/\qG qs z= .tup [.str kk,ee]/\Is H' ee w2/\(kk="leaf"->isT ee=v_):=by
  intro z H' Z s';have a5:z∈ps.map (·.1):=by rwa[<-aI]
  erw[X4 hq.tab ((ae z).mp Z),_,kk,ee,ac,_,g2];erw[WW aZ bw a5,l1,l2];rw[<-hq.dat a5,ac] at l2;erw[l2,ts,ws,bA,au,w1,r1,rfl,[rfl,_],w2,r2,rfl,bB,h3];cases(show r2= [] from h3)
  rw[bA] at l1;exact⟨ts,kk,w2,ee,.inl ⟨_,Vj z,.inr [o:s' _ _ hd],1,l1.symm⟩,s' _ _ au,ac,bB.mono s'.tk,λc=>(g2 (by rw[c];decide+kernel)).2⟩
 exists 3,%[#[qD,2,(1),4,qV.nd,rfl,VV rfl,xi,_,_],#[Yh,#[wn,pv 0],#[qU,(2),qV.nd],%[|#[qK,#[qt,Qk,#[qJ,qI,#[Ql,pv 2],ql],qp],%[|#[YO,pv 1,pv 2,#[qJ,qI,#[Ql,pv 2],ql]]],qx]]],#[Z7,2,["name","values"],(1),[1],(3),12,qV.nd,rfl,G9 rfl,En (qq Q9) ["sources","values","name","waiting","grown","run","runs"],rfl,#[wn,pv 0],(λ_ _ _ _ _ _=>#[qU,(0),(show Vy (["name","values"]:om Str) by decide+kernel)]),(λ_ _ _ _ _ _=>#[sX,3,#[xF,#[JX,Qs hr,pv 0,pv 1]]]),(λ_ _ _ _ _ _=>(pv 0)),_,_,_],#[qD,(4),qV.nd,ju],#[ji,#[Qo,pv 4],%[#[qD,(4),qV.nd,ju],#[Yh,#[Zd,#[Dw,9,rfl,_,T.z_list,boot_list,_,T.ko,Fz,pv 3,_,_,_,_,_,_,_,_]],#[qU,(2),qV.nd],%[#[qD,(5),qV.nd,#[qy,wJ,T.me,#v[pv 0,pv 2,pv 1]]]|#[qK,#[qt,Qk,#[qJ,qI,#[qJ,qI,pv 5,ql],ql],qp],%[#[YO,pv 1,pv 2,#[qJ,qI,#[qJ,qI,pv 5,ql],ql]]|#[qD,(4),qV.nd,ju]],qx]]]|#[Z7,2,["name","values"],(1),[1],(3),12,qV.nd,rfl,G9 rfl,En (qq Q9) ["sources","values","name","waiting","grown","run","runs"],rfl,#[OM,6,_,T.ko,pv 3,_],(λ_ _ _ _ _ _=>#[qU,(0),(show Vy (["name","values"]:om Str) by decide+kernel)]),(λ_ _ _ _ _ _=>#[sX,3,#[xF,#[JX,Qs hr,pv 0,pv 1]]]),(λ_ _ _ _ _ _=>(pv 0)),_,_,_]]],#[qD,(6),qV.nd,xi],#[Yh,#[wn,pv 0],#[qU,(2),qV.nd],%[|#[qK,#[qt,OR,#[qJ,qI,#[Ql,pv 2],ql],qp],%[|#[YO,pv 6,pv 2,#[qy,wJ,T.me,#v[pv 0,pv 2,pv 1]]]],qx]]]|#[qv,#[qB,#v[pv 1,pv 6]]]]
 exists 8,N1,q1;refine λvd aQ=>q1 _ _ ?_;have s1:=qi aQ (.dK []);have t1:Yr (upd H vd (.dK [])) vd []:=⟨[],qk,1,1⟩;generalize upd H vd (.dK [])=H1 at s1 t1⊢;exists 8,N2,q2
 exists 0,d,o,iy aa,1,s1 _ _ hd
 let J1_:Nat->L2.St->Hp->Prop:=λi σ H'=>∃(va:om (Str×D)) (u2:oq V),σ= [u_ (.ref d),u_ (.ref vd),u2,U_,U_,U_,U_]/\ie H H'/\Yr H' vd va/\VOk qs va/\VLf qs va (ls.take i)/\(va.map (·.1)).Nodup
 refine BL (kvs:=iy aa) J1_ ⟨[],U_,1,s1,t1,⟨λm hm=>by cases hm⟩,λm hm=>(by cases hm),vO⟩ (λi σ H' _ h=>by erw[h,_,_,_,s',_];exact s' _ _ hd) ?_ ?_
 ·rintro i p σ H' hp ⟨va,u2,rfl,s',⟨af,hV,aB,aJ⟩,hO,hL,aw⟩;erw[a3 hp,z,ez,Z];have ag:=uK Z;have et:ls.take (i+1)=ls.take i++ [z]:=by rw[vb,Z];rfl
  erw[a4 z H' ag s',ts,kk,w2,ee,aq,au,ac,a6,bC];rw[ez]
  exists 0,0,d,0,aq,ts,_,_,0,1,SqT.of au,1,1,0;have bQ:=a2 hO aw;have a7:↑(iy af)=↑va:=by
   have:=Ab VC aB;unfold iy
   simpa using this
  by_cases c:kk="leaf"
  ·refine lh (A9 (by rw[c])) ?_
   exists 0,0,d,0,aq,ts,_,_,0,1,SqT.of au,1,0,0,vd,0,BZ.k (k:=Vj z) hV ()
   rw[KF];erw[K0 (z:=z) a6 aB aJ,f1,f2];have aK:(SyP qs).g0 z=none:=by
    show g0D z (qG qs z)=U_;rw[ac];exact wX.mpr c
   have hF:Sy.F (SyP qs) z=u_ (u_ ee):=by
    rw[Sy.zi (Qg qs) aK];show u_ (WZ (qG qs z))=_;rw[ac]
    rfl
   exists 5
   refine⟨mT va z ee,0,λb ob e=>by rw[qm (qo e aQ)];exact s' b ob e,Yr.up hV f1 f2,hO.put ((ae z).mp ag) hF (bC c),?_,MD aw⟩
   rw[et];intro m hm U;rcases Af.mp hm with hm|hm
   ·exact hL.put z ee m hm U
   ·cases Ae.mp hm;exact JB.mpr (.inl rfl)
  ·refine iN (ub (λy=>c (V.str.inj y))) ?_
   exists va,0,s',⟨af,hV,aB,aJ⟩,hO,?_,aw;rw[et];intro m hm U;rcases Af.mp hm with hm|hm
   ·exact hL m hm U
   ·cases Ae.mp hm;rw[ac] at U;exact Aa (wX.mp U) c
 rintro σ H2 ⟨va,u2,rfl,s2,aR,hO,hL,aw⟩;rw[aP,vy] at hL;refine q2 _ _ ?_;exists 8,N3,q3;have a8:∀(va:om (Str×D)) (z:Str) (H':Hp) (R:Bool->Hp->Prop),Yr H' vd va->R (decide (z∉va.map (·.1))) H'->∃ov:oq V,mx H' vd (.str z) ov/\R (!ov.isSome) H':=λva z H' R hV r=>by
  erw[hV,af,hV,aB,aJ];erw[BE hV aB aJ z,ov,h1,h2,_]
  exists ov,h1;rw[h2];by_cases c:z∈va.map (·.1)
  ·rw[A9 c];rwa[ub (λh=>h c)] at r
  ·rw[ub c];rwa[A9 c] at r
 exists 0,d,o,iy aa,1,s2 _ _ hd,λA0 a9=>?_;refine Eo (tl:= [u_ (.ref vd)]) (λz=>decide (z∉va.map (·.1))) V.str (s2 _ _ hd) aH () a9 (λz H' R Z s' r=>?_) (λz H' R Z s' r=>[0:r]) λH3 s3 ba=>q3 _ _ ?_
 ·erw[a8 va z H' R (aR.same s') r,ov,h1,h2];exact⟨0,0,vd,ov,1,h1,0,h2⟩
 exists 8,N4,q4;refine q4 _ _ ?_;exists 8,N5,q5
 let J2_:Nat->L2.St->Hp->Prop:=λmm σ H'=>∃(va:om (Str×D)) (wl:om Str) (gr:Bool) (wa:o6) (u2 u5:oq V),mm=(if gr=v_ then ↑wl+1 else 0)/\σ= [u_ (.ref d),u_ (.ref vd),u2,u_ (.ref wa),u_ (.bl gr),u5,U_]/\ie H H'/\Yr H' vd va/\H' wa=u_ (.lst (wl.map V.str))/\Rds ls qs va wl/\(gr=Vh->∀m∈wl,∀g,g0D m (qG qs m)=u_ g->Yl (Sy.it (SyP qs) (md qs va) 302 g)=U_)
 exists J2_,⟨_,va,ls.filter λz=>decide (z∉va.map (·.1)),v_,A0,_,U_,1,1,s2.trans s3,aR.same s3,ba,⟨hO,hL,aw,λm=>by rw[Ah,uR],uL (vP ..) bx⟩,λz=>by cases z⟩
 clear aR hO hL aw s3 ba a9 s2 va a8;rintro mm σ H4 ⟨va,wl,gr,wa,u2,u5,rfl,rfl,s4,aC,aL,hR,bD⟩;have bU:=hR.len
 exists 0,0;cases gr with
 |false=>
  refine iN rfl (q5 _ _ ?_);have bb:md qs va=Sy.F (SyP qs):=AaJ hR.ok (λm hm U=>hR.lf m ((ae m).mpr hm) U) λm hm hv g U=>bD rfl m ((hR.wt m).mpr [(ae m).mpr hm:hv]) g U;exists 8,N6,q6;refine λrd aS=>q6 _ _ ?_;have s5:=qi aS (.dK []);have t5:Yr (upd H4 rd (.dK [])) rd []:=⟨[],qk,1,1⟩;have bE:rd≠vd:=λe=>by erw[aC,_,h,_];rw[<-e,aS] at h;cases h
  have aD:=aC.same s5;have ax:=s4.trans s5;generalize upd H4 rd (.dK [])=H5 at s5 t5 aD ax⊢;exists 8,N7,q7
  exists 0,d,o,iy aa,1,ax _ _ hd;have bc:H rd=none:=s4.free aS
  let J4_:Nat->L2.St->Hp->Prop:=λi σ H'=>∃(rr:om (Str×D)) (u2:oq V),σ= [u_ (.ref d),u_ (.ref vd),u2,u_ (.ref wa),u_ (.bl Vh),u5,u_ (.ref rd)]/\ie H H'/\Yr H' vd va/\Yr H' rd rr/\BW qs rr (ls.take i)/\↑rr<=i
  refine BL (kvs:=iy aa) J4_ ⟨[],u2,1,ax,aD,t5,⟨λm=>⟨λh=>(by cases h),λh=>(by cases h.1)⟩,λm g hm=>(by cases hm)⟩,uG _⟩ (λi σ H' _ h=>by erw[h,_,_,_,s',_];exact s' _ _ hd) ?_ ?_
  ·rintro i p σ H' hp ⟨rr,u2,rfl,s',aM,⟨bd,aN,aT,be⟩,ad,bV⟩;erw[a3 hp,z,ez,Z];have hi:i<↑ls:=(Ai.mp Z).1;have ag:=uK Z;have et:ls.take (i+1)=ls.take i++ [z]:=by rw[vb,Z];rfl
   erw[a4 z H' ag s',ts,kk,w2,ee,aq,au,ac,a6,_];rw[ez]
   exists 0,0,d,0,aq,ts,_,_,0,1,SqT.of au,1,1,0;by_cases c:kk="leaf"
   ·refine iN (by rw[c];simp) ?_
    have aK:g0D z (qG qs z)=none:=by rw[ac];exact wX.mpr c
    exists rr,0,s',aM,⟨bd,aN,aT,be⟩,[λm=>?_:λm g hm U=>?_],()
    ·rw[ad.keys m,et,Uj,vo];exact⟨λh=>[.inl h.1:h.2],λh=>⟨h.1.resolve_right (λe=>h.2 (by rwa[e])),h.2⟩⟩
    ·rw[et,Uj,vo] at hm;rcases hm with hm|rfl
     ·exact ad.dat m g hm U
     ·rw[aK] at U;cases U
   ·refine lh (by simp[c]) ?_
    obtain⟨gp,U⟩:∃gp,g0D z (qG qs z)=u_ gp:=by
     cases U:g0D z (qG qs z) with
     |none=>rw[ac] at U;exact Aa (wX.mp U) c
     |some gp=>exact[gp:1]
    exists 0,0,0,d,vd,o,z,ps,qs,va,gp,1,hS.same s',hq,aM,hR.ok,(ae z).mp ag,U,λv6 H6 s6 i6=>?_;have aE:=s6 _ _ aN;have bR:↑(iy bd)=↑rr:=by
     have:=Ab VC aT;unfold iy
     simpa using this
    exists 0,0,rd,0,BZ.k (k:=Vj z) aE ()
    rw[KF];rw[bb] at i6;erw[K0 (z:=z) i6 aT (be.mono s6.tk),f1,f2];erw[aM,af,ay,aA,aF];have bW:↑(mT rr z (Xv (Sy.it (SyP qs) (Sy.F (SyP qs)) 302 gp)))<=↑rr+1:=by
     unfold mT;split
     ·unfold nI;rw[u9];omega
     ·rw[uq];exact ug _
    exists 5
    refine⟨mT rr z _,0,λb ob e=>by rw[qm (qo e bc)];exact s6 _ _ (s' b ob e),⟨af,by rw[qm bE.symm];exact s6 _ _ ay,aA,(aF.mono s6.tk).mono (Tk.updD aE)⟩,Yr.up aE f1 f2,[λm=>?_:λm g hm ah=>?_],()⟩
    ·rw[JB,ad.keys m,et,Uj,vo];constructor
     ·rintro(rfl|h)
      ·exact⟨.inr rfl,by rw[U];intro y;cases y⟩
      ·exact[.inl h.1:h.2]
     ·rintro⟨h|h,h2⟩
      ·exact .inr [h:h2]
      ·exact .inl h
    ·rw[et,Uj,vo] at hm;by_cases cm:m=z
     ·rw[KO rr z m _ (.inl cm),A6 cm];rw[cm,U] at ah;cases ah
      rfl
     ·have bf:=hm.resolve_right cm;rw[KO rr z m _ (.inr ((ad.keys m).mpr ⟨bf,by rw[ah];intro y;cases y⟩)),A4 cm]
      exact ad.dat m g bf ah
  ·rintro σ H' ⟨rr,u2,rfl,s',aM,aN,ad,_⟩;rw[aP,vy] at ad;refine q7 _ _ ?_
   exists 0,0,sml rfl,λt ht=>?_;refine k t vd rd rr _ (s'.trans (qi ht _)) qk (aN.same (qi ht _)) [λm=>?_:λm g hm U=>ad.dat m g ((ae m).mpr hm) U];rw[ad.keys m,ae m]
 |true=>
  refine lh rfl ?_
  exists λσ' H'=>∃m',m'<(if v_=v_ then ↑wl+1 else 0)/\J2_ m' σ' H',λ_ _ h=>h
  show mX _ _ _ _ H4;refine qC λB1 b1=>b1 _ _ ?_;exists 8,B2,b2
  exists 0,wa,0,SqL.of aL,λt ht=>?_;have s5:=qi ht (.lst (wl.map V.str).reverse);have aU:upd H4 t (.lst (wl.map V.str).reverse) t=u_ (.lst (wl.reverse.map V.str)):=by rw[qk,List.map_reverse]
  have aO:=s5 _ _ aL;have aD:=aC.same s5;have ax:=s4.trans s5;have bF:wa≠vd:=λe=>by erw[aC,_,h,_];rw[e,h] at aL;cases aL
  have bG:t≠vd:=λe=>by erw[aC,_,h,_];rw[e,h] at ht;cases ht
  generalize upd H4 t (.lst (wl.map V.str).reverse)=H5 at s5 aU aO aD ax⊢
  exists t,1,[_:SqL.of aU]
  let J3_:Nat->L2.St->Hp->Prop:=λi σ H'=>∃(O:om (Str×D)) (ak:Bool) (u2 u5:oq V),σ= [u_ (.ref d),u_ (.ref vd),u2,u_ (.ref wa),u_ (.bl ak),u5,U_]/\ie H H'/\Yr H' vd O/\H' wa=u_ (.lst (wl.map V.str))/\H' t=u_ (.lst (wl.reverse.map V.str))/\VOk qs O/\(O.map (·.1)).Nodup/\(∀m∈va.map (·.1),m∈O.map (·.1))/\(ak=Vh->O=va/\∀m∈wl.reverse.take i,∀g,g0D m (qG qs m)=u_ g->Yl (Sy.it (SyP qs) (md qs va) 302 g)=U_)/\(ak=v_->∃m∈wl,m∈O.map (·.1))
  refine XS (xs:=wl.reverse.map V.str) J3_ ⟨va,Vh,_,0,ax,aD,aO,aU,hR.ok,hR.nd,(λm hm=>hm),λ_=>⟨1,λm hm=>(by cases hm)⟩,λy=>(by cases y)⟩ (λi σ H' _ h=>by erw[h,_,_,_,_,_,_,_,_,e,_];exact SqL.of e) ?_ ?_
  ·rintro i y σ H6 hy ⟨O,ak,u2,u5,rfl,s6,aG,al,aV,am,ao,ap,hf,aW⟩;rw[uD] at hy;cases Z:wl.reverse[i]? with
   |none=>rw[Z] at hy;cases hy
   |some z=>
    rw[Z] at hy;cases hy;have bg:z∈wl:=List.mem_reverse.mp (uK Z);erw[(hR.wt z).mp bg,ag,bH];have bh:=(ae z).mp ag;have et:wl.reverse.take (i+1)=wl.reverse.take i++ [z]:=by rw[vb,Z];rfl
    obtain⟨gp,U⟩:∃gp,g0D z (qG qs z)=u_ gp:=by
     cases U:g0D z (qG qs z) with
     |none=>exact Aa (hR.lf z ag U) bH
     |some gp=>exact[gp:1]
    show mX _ _ _ _ H6;exists 8,C1,c1
    exists 0,0,0,d,vd,o,z,ps,qs,O,gp,1,hS.same s6,hq,aG,am,bh,U,λv7 H7 s7 i7=>c1 _ _ ?_;have bI:=oQ hq.tab (Bj am) 302 (oX hq.tab U).1;have bo:(Sy.it (SyP qs) (md qs O) 302 gp).en.isSome=true:=Sy.kz (Qg qs) 302 gp ((Qg qs).l0 z gp U);erw[Sn bI bo,w0,e0,bJ,bK,bL];have aX:Xv (Sy.it (SyP qs) (md qs O) 302 gp)= .tup [.tup ((Sy.it (SyP qs) (md qs O) 302 gp:Gp).ra++nU (Sy.it (SyP qs) (md qs O) 302 gp:Gp).run),.tup [.str w0,e0]]:=by
     unfold Xv;rw[bJ]
     rfl
    rw[aX] at i7;erw[i7,p7,bX,rfl,bp,y1,r1,rfl,_,y2,r2,rfl,[p8,bY,rfl,bq,y3,r3,rfl,[rfl,_],y4,r4,rfl,bM,h4],h2];cases(show r2= [] from h2)
    cases(show r4= [] from h4)
    have bt:=s6.trans s7;have bu:=aG.same s7
    exists 0,p7,_,_,0,1,SqT.of bp,1,p8,_,_,0,1,SqT.of bq,1,1,0;by_cases c:w0="said"
    ·refine lh (A9 (by rw[c])) ?_
     erw[Aaq hq.tab am U (bK c),hF,hT];erw[bu,af,ay,aA,aF];have bS:=a2 am ao;have a7:↑(iy af)=↑O:=by
      have:=Ab VC aA;unfold iy
      simpa using this
     exists 0,p7,_,_,0,1,SqT.of bp,1,p8,_,_,0,1,SqT.of bq,1,0,0,vd,0,BZ.k (k:=Vj z) ay ()
     rw[KF];erw[K0 (z:=z) bM aA aF,f1,f2]
     exists 5
     refine⟨mT O z e0,v_,_,0,λb ob e=>by rw[qm (qo e aQ)];exact bt b ob e,Yr.up ay f1 f2,by rw[qm bF];exact s7 _ _ al,by rw[qm bG];exact s7 _ _ aV,am.put bh hF hT,MD ao,λm hm=>JB.mpr (.inr (ap m hm)),λy=>(by cases y),λ_=>[z:bg:JB.mpr (.inl rfl)]⟩
    ·refine iN (ub (λy=>c (V.str.inj y))) ?_
     exists O,ak,_,0,bt,bu,s7 _ _ al,s7 _ _ aV,am,ao,ap,λaY=>?_,aW;erw[hf aY,h1,h2]
     exists h1,λm hm g ah=>?_;rw[et] at hm;rcases Af.mp hm with hm|hm
     ·exact h2 m hm g ah
     ·cases Ae.mp hm;rw[U] at ah;cases ah;rw[<-h1];exact bL c
  ·rintro σ H6 ⟨O,ak,u2,u5,rfl,s6,aG,al,aV,am,ao,ap,hf,aW⟩;rw[u9,vy] at hf;refine b2 _ _ ?_
   exists 0,wa,0,SqL.of al,λA7 bN=>?_;refine PX (tl:= [u_ (.ref vd)]) (λz=>decide (z∉O.map (·.1))) al () bN (λz H' R Z s' r=>?_) (λx H' R r=>[0:r]) λH7 s7 bO=>?_
   ·erw[aG.same s',af,ay,aA,aF];erw[BE ay aA aF z,ov,h1,h2,_]
    exists 0,0,vd,ov,1,h1,0;rw[h2];by_cases c:z∈O.map (·.1)
    ·rw[A9 c];rwa[ub (λh=>h c)] at r
    ·rw[ub c];rwa[A9 c] at r
   have bv:∀m,m∈wl.reverse.filter (λz=>decide (z∉O.map (·.1)))↔m∈ls/\m∉O.map (·.1):=λm=>by
    rw[Ah,List.mem_reverse,uR,hR.wt m];exact[λh=>[h.1.1:h.2]:λh=>[[h.1:λy=>h.2 (ap m y)]:h.2]]
   have bZ:(wl.reverse.filter λz=>decide (z∉O.map (·.1))).length<=↑wl:=by
    have:=vP (λz=>decide (z∉O.map (·.1))) wl.reverse;rwa[vM] at this
   exists _,?_,O,wl.reverse.filter λz=>decide (z∉O.map (·.1)),ak,A7,_,0,1,s6.trans s7,aG.same s7,bO,⟨am,λm hm U=>ap m (hR.lf m hm U),ao,bv,()⟩,λaY m hm g U=>?_
   ·cases ak with
    |false=>show 0<↑wl+1;omega
    |true=>
     erw[aW rfl,m,hm,bP];have:(wl.reverse.filter λz=>decide (z∉O.map (·.1))).length<↑wl.reverse:=by
      refine Nat.lt_of_le_of_ne (vP ..) λe=>?_;have:=List.length_filter_eq_length_iff.mp e m (List.mem_reverse.mpr hm);rw[uR] at this;exact this bP
     rw[vM] at this;show _+1<↑wl+1;omega
   ·erw[hf aY,h1,h2];subst h1;exact h2 m (List.mem_reverse.mpr ((hR.wt m).mpr ((bv m).mp hm))) g U
end
section
variable {qs:om (Str×D)}
nonrec def iL (qs:om (Str×D)) (m:Str):D:=match g0D m (qG qs m) with
 |none=>XW (qG qs m)
 |some g=>Qp ((itP qs 302 g).en.getD .non)
variable {m:Str}
def L8 {n:Str}{p:Gp}(h:Dn qs n don)(U:(m,p)∈don):Sy.Ys (Y:=SyP qs) don m=u_ p:=by
 have O:=Abw h;unfold Sy.Ys;have:(don.find? λq=>decide (q.1=m))=u_ (m,p):=by
  clear h
  induction don with
  |nil=>cases U
  |cons q r ih=>
   rw[ur,U1] at O;rcases Ac.mp U with rfl|U
   ·rw[uQ,A9 rfl]
   ·have Z:q.1≠m:=λz=>O.1 (by rw[z];exact Ag.mpr [_:U:1])
    rw[uQ,ub Z];exact ih U O.2
 have e2:(RJ (λq:Str×Gp=>decide (q.1=m)) don).map (·.2)=u_ p:=by rw[this];rfl
 exact e2
def Adf {n:Str}(h:Dn qs n don)(hm:g0D m (qG qs m)=U_∨m∈don.map (·.1)):AbF qs don m=iL qs m:=by
 unfold AbF iL;cases Z:g0D m (qG qs m) with
 |none=>rfl
 |some g=>
  rcases hm with hm|hm
  ·rw[Z] at hm;cases hm
  ·erw[Ag.mp hm,[m',p],hp,rfl];erw[sr h hp,s,O,U];have O:g0D m' (qG qs m')=u_ s:=O;rw[Z] at O;cases O;have U:p=itP qs 302 g:=U;simp![L8 h hp];rw[<-U]
   rfl
nonrec def ni (d:D):oq Str:=match d with
 | .tup [.str k,.str m]=>if k="stuck" then u_ m else U_
 |_=>U_
def CK (h:ThS e):e≠ .tup [.str "stuck",.str x]:=by
 intro z;rcases h with⟨y,rfl⟩|⟨y,rfl,_⟩|⟨u,y,rfl,_⟩
 ·injection z with z;injection z with z _;injection z with z;revert z;decide+kernel
 ·injection z with z;injection z with z _;injection z with z;revert z;decide+kernel
 ·injection z with z;injection z with z _;injection z with z;revert z;decide+kernel
def Abq {r:Rn}(h:ThS r.th)(k:mi r=u_ e):ThS e:=by
 unfold mi at k;by_cases c:QP r.th=v_
 ·rw[A6 c] at k;cases k
 ·rw[A4 c] at k;cases k;exact h
variable {g:Gp}
def Nl {d:D}(k:(mV g d).en=u_ e):ThS e:=by
 unfold mV at k;split at k
 ·cases k;exact .inl ⟨0⟩
 ·cases O:ya d with
  |none=>rw[O] at k;cases k;exact .inl ⟨0⟩
  |some rs=>rw[O] at k;exact Abq (SI (Wv O).2) k
def CQ {d:D}(h:GI g)(U:g.en=U_)(ha:Jk d)(k:(QT g d).en=u_ e):ThS e:=by
 unfold QT at k;cases O:g.run with
 |none=>rw[O] at k;exact Nl k
 |some p=>
  erw[p,rs,r];rw[O] at k;erw[h.run rs r O,h1,h2,h3,h4];exact Abq (Ix h1 h2 (h4 U) ha) k
def CT (hq:QQ qs){m x:Str}{s:Gp}(U:g0D m (qG qs m)=u_ s):∀k,(itP qs k s).en=u_ (.tup [.str "stuck",.str x])->∃i,(itP qs i s).en=U_/\Q5 (itP qs i s)=u_ x/\FP qs x=U_
 |0,O=>by
  have O:s.en=u_ _:=O;unfold g0D at U;split at U
  ·split at U
   ·cases U
   ·split at U
    ·cases U;cases O
    ·cases U;exact Aa rfl (CK (Nl O))
  ·cases U
 |k+1,O=>by
  have e0:itP qs (k+1) s=Sy.step (SyP qs) (FP qs) (itP qs k s):=Sy.Wm (Y:=SyP qs) k s;rw[e0,NJ] at O;erw[oR hq U k,gi,ga];cases Z:(itP qs k s).en with
  |some d=>
   rw[Z] at O;simp![rR,Vg] at O;exact CT hq U k O
  |none=>
   rw[Z] at O;simp![tP,A4 ua] at O;cases hw:Q5 (itP qs k s) with
   |none=>
    rw[hw] at O;erw[ZY (qs:=qs) gi Z hw,rs,r,k',z,ad,ae,aa,_,e];have O:(m6 qs (itP qs k s)).en=_:=O;have ac:=BD hq gi Z hw;rw[e] at O ac;exact Aa rfl (CK (CQ gi Z (.inr (KH hq z aa).1) O))
   |some m'=>
    rw[hw] at O;simp only at O;cases hF:FP qs m' with
    |some a=>
     rw[hF] at O;exact Aa rfl (CK (CQ gi Z (AdN hq _ _ hF) O))
    |none=>
     rw[hF] at O;have O:u_ (D.tup [.str "stuck",.str m'])=u_ (.tup [.str "stuck",.str x]):=O;cases O;exact⟨k,Z,hw,hF⟩
def Aah (h:EnS e)(k:ni (Qp e)=u_ x):e= .tup [.str "stuck",.str x]:=by
 rcases h with⟨z,rfl⟩|⟨y,rfl,_⟩|⟨z,rfl⟩
 ·have O:Qp (flt z)=flt z:=by unfold Qp flt;dsimp only;exact A4 ()
  rw[O] at k;have k:(if("fault":Str)="stuck" then u_ z else U_)=u_ x:=k
  rw[A4 ()] at k
  cases k
 ·have O:Qp (.tup [.str "said",y])= .tup [.str "value",y]:=by unfold Qp;dsimp only;exact A6 rfl
  rw[O] at k;cases y with
  |str w=>
   have k:(if("value":Str)="stuck" then u_ w else U_)=u_ x:=k
   rw[A4 ()] at k
   cases k
  |_=>cases k
 ·have O:Qp (.tup [.str "stuck",.str z])= .tup [.str "stuck",.str z]:=by unfold Qp;dsimp only;exact A4 ()
  rw[O] at k;have k:(if("stuck":Str)="stuck" then u_ z else U_)=u_ x:=k
  rw[A6 rfl] at k;cases k
  rfl
def XH {s:Gp}(O:g0D m (qG qs m)=u_ s):(itP qs 302 s).en.isSome=true:=Sy.kz (Y:=SyP qs) (Qg qs) 302 s ((Qg qs).l0 m s O)
def Aag (hq:QQ qs){n:Str}(h:Dn qs n don)(hm:m∈don.map (·.1))(Z:ni (iL qs m)=u_ x):x∈don.map (·.1):=by
 erw[Ag.mp hm,[m',p],hp,rfl];erw[sr h hp,s,O,e2];have O:g0D m' (qG qs m')=u_ s:=O;unfold iL at Z;rw[O] at Z;simp only at Z;have hf:=XH O;cases he:(itP qs 302 s).en with
 |none=>rw[he] at hf;cases hf
 |some e=>
  rw[he] at Z;have ee:=Aah ((oR hq O 302).1.en e he) Z;rw[ee] at he;erw[CT hq O 302 he,i,h1,h2,h3];have U:∃g,g0D n (qG qs n)=u_ g:=by
   cases c:g0D n (qG qs n) with
   |none=>rw[Aw c h] at hp;cases hp
   |some g=>exact[g:1]
  erw[U,g0,U];erw[h,j,hj];have fi:(SyP qs).fin (Sy.it (SyP qs) (Sy.F (SyP qs)) i s)=false:=by
   show(itP qs i s).en.isSome=Vh;rw[h1]
   rfl
  rcases Sy.end_clo (Qg qs) U hj hp O (i:=i) (m:=x) fi h2 with c|c
  ·rw[show FP qs x=_ from Sy.zi (Qg qs) c] at h3
   cases h3
  ·exact c
end
nonrec def chG (f:Str->D):Nat->om Str->D->D
 |0,_,_=> .non
 |k+1,ns,a=>match ni a with
  |none=> .tup [.tup (ns.map D.str),.tup []]
  |some m=>if m∈ns then .tup [.tup (ns.map D.str),.tup ((ns.drop (ns.idxOf m)).map D.str)] else chG f k (ns++ [m]) (f m)
nonrec def vlO (d:D):Bool:=match d with
 | .tup (.str k::_)=>decide (k="value")||decide (k="lack")
 |_=>Vh
nonrec def chD (qs:om (Str×D)) (n:Str):D:=if vlO (iL qs n)=v_ then .tup [.tup [],.tup []] else chG (iL qs) 62 [n] (iL qs n)
def Nz (hq:QQ qs){n:Str}(h:vlO (iL qs n)=Vh):∃g,g0D n (qG qs n)=u_ g:=by
 cases U:g0D n (qG qs n) with
 |some g=>exact[g:1]
 |none=>
  erw[KJ hq U,k,e1,O,e3];unfold iL at h;rw[U] at h
  try dsimp only at h
  rw[e1] at h;cases Z:WZ (qG qs n) with
  |none=>
   rw[Z] at O;have O:D.tup k= .tup [.str "lack"]:=O;rw[O] at h;exact Aa h ()
  |some v=>
   rw[Z] at O;have O:D.tup k= .tup [.str "value",v]:=O;rw[O] at h;have h:(decide (("value":Str)="value")||decide (("value":Str)="lack"))=false:=h
   rw[A9 rfl] at h;cases h
variable {b:o6}{xs:om V}
def Cz.awayL {H0:Hp}{n:Str}{o:Oc}{rk uk:om (Key×V)}(h:Cz CO CP H0 H qs n o rk uk fk don)(k:Kp [b] H H')(U:H b=u_ (.lst xs))(hs:ie H0 H'):Cz CO CP H0 H' qs n o rk uk fk don:=by
 have O:∀(c:o6) (ks:om (Key×V)),H c=u_ (.dK ks)->c∉ [b]:=λc ks Z z=>by rw[Ae.mp z,U] at Z;cases Z
 exact⟨hs,h.oa.kp k (by intro p hp;cases Ae.mp hp;exact .inl [_:U]),k.kept _ _ h.dr (O _ _ h.dr),h.ks,h.vs.mono k.tk,k.kept _ _ h.du (O _ _ h.du),h.uo,k.kept _ _ h.df (O _ _ h.df),h.fd.mono k.tk,h.fl,h.dn,h.sg,h.gi,h.len,h.new,h.ne⟩
def Ml {CO CP:o6}{H0 H:Hp}{qs:om (Str×D)}{n m:Str}{o:Oc}{rk uk fk:om (Key×V)}{don:om (Str×Gp)}{Q:VK}{E:XK}(hq:QQ qs)(O:Cz CO CP H0 H qs n o rk uk fk don)(hl:↑fk<=20090)(hm:g0D m (qG qs m)=U_∨m∈don.map (·.1))
  (k:∀v H' fk',Cz CO CP H0 H' qs n o rk uk fk' don->↑fk'<=↑fk+1->Kp [o.df] H H'->Is H' (iL qs m) v->nrg (iL qs m)->Q v H'):Mw CO CP [.ref o.x,.str m] H Q E:=by
 exists o,m,qs,#[Y,[],don],uk,fk,1,O.oa,hq,O.sg,O.du,O.uo,O.df,O.fd,(),(λp hp=>(O.gi p hp).2),λv H1 fk1 k1 f1 d1 l1 _ y1=>?_
 unfold AD at y1;rw[Abu O.dn hm] at y1;erw[y1,d,hd,_,hg];obtain⟨aa,U⟩:=hg (λz=>by cases z)
 have U:d=iL qs m:=U.trans (Adf O.dn hm);rw[U] at hd aa;have Z:∀c,c≠o.df->c∉ [o.df]:=λc hc z=>hc (Ae.mp z);have ac:∀c,H0 c≠U_->c∉ [o.df]:=λc hc=>Z c (λz=>hc (by rw[z];exact O.new.2.2.2))
 have ad:Cz CO CP H0 H1 qs n o rk uk fk1 don:=⟨λb ob e=>k1.kept b ob (O.sm b ob e) (ac b (by rw[e];intro z;cases z)),O.oa.kp k1 (by intro p hp;cases Ae.mp hp;exact .inr (.inl [_:O.df])),k1.kept _ _ O.dr (Z _ O.ne.1),O.ks,O.vs.mono k1.tk,k1.kept _ _ O.du (Z _ O.ne.2),O.uo,f1,d1,by have:=O.fl;omega,O.dn,O.sg,O.gi,O.len,O.new,O.ne⟩
 exact k v H1 fk1 ad l1 k1 hd aa
def EH {x:Str}:∀{ns:om Str},x∈ns->ns[ns.idxOf x]? =u_ x/\∀m,m<ns.idxOf x->ns[m]? ≠u_ x
 |y::r,h=>by
  by_cases c:y=x
  ·subst c;rw[UN];exact[1:λm hm=>Aa hm (HE m)]
  ·have O:x∈r:=by
    rcases Ac.mp h with e|e
    ·exact Aa e.symm c
    ·exact e
   erw[EH O,h1,h2];have e:(y::r).idxOf x=r.idxOf x+1:=by
    have U:(y==x)=false:=beq_eq_false_iff_ne.mpr c;rw[List.idxOf_cons,U]
    rfl
   rw[e];exists h1,λm hm=>?_;cases m with
   |zero=>intro z;exact c (uF z)
   |succ m=>exact h2 m ()
def Sq (O:QQ qs){n:Str}(h:Dn qs n don){ns:om Str}(hn:ns.Nodup)(U:∀x∈ns,x∈don.map (·.1)):↑ns<=60:=by
 have:=XD (m:=qs.map (·.1)) hn λx Z=>by
  erw[Ag.mp (U x Z),[m,p],hp,rfl];erw[sr h hp,s,e,_];exact(Qg qs).gn _ s e
 rw[u9] at this;exact uL this O.2.2
def Yg {H:Hp}:∀{zs:om Str},(∀z∈zs,↑z<=100)->L2.IsL H (zs.map D.str) (zs.map V.str)
 | [],_=>rfl
 |z::r,h=>⟨_,0,yU (by have:=h z ue;omega),Yg λy O=>h y (uc _ O)⟩
def Abt (O:QQ qs){n:Str}(h:Dn qs n don)(U:x∈don.map (·.1)):nm x=true:=by
 erw[Ag.mp U,[m,p],Z,rfl];erw[sr h Z,s,e,_];exact O.1.1.1 _ ((Qg qs).gn _ s e)
variable {m:Str}
def Nm (hq:QQ qs)(h:nrg (iL qs m)):∃k r,iL qs m= .tup (.str k::r)/\((k="stuck"/\∃x,r= [.str x]/\ni (iL qs m)=u_ x)∨(k≠"stuck"/\ni (iL qs m)=U_)):=by
 erw[h,k,r,e,hk];exists k,r,e;by_cases c:k="stuck"
 ·refine .inl [c:?_];subst c;unfold iL at e⊢;cases U:g0D m (qG qs m) with
  |none=>
   rw[U] at e;erw[KJ hq U,l,e1,O,e3]
   try dsimp only at e
   rw[e1] at e;cases ho:WZ (qG qs m) with
   |none=>rw[ho] at O;rw[show D.tup l= .tup [.str "lack"] from O] at e;injection e with e;injection e with e _;injection e with e;exact Aa e ()
   |some v=>rw[ho] at O;rw[show D.tup l= .tup [.str "value",v] from O] at e;injection e with e;injection e with e _;injection e with e;exact Aa e ()
  |some g=>
   rw[U] at e
   try dsimp only at e⊢
   have hf:=XH U;cases Z:(itP qs 302 g).en with
   |none=>rw[Z] at hf;cases hf
   |some d=>
    rw[Z] at e;have e:Qp d= .tup (.str "stuck"::r):=e;show∃x,r= [.str x]/\ni (Qp d)=u_ x;rcases(oR hq U 302).1.en d Z with⟨z,rfl⟩|⟨y,rfl,_⟩|⟨z,rfl⟩
    ·have O:Qp (flt z)=flt z:=by unfold Qp flt;dsimp only;exact A4 ()
     rw[O] at e;injection e with e;injection e with e _;injection e with e;exact Aa e ()
    ·have O:Qp (.tup [.str "said",y])= .tup [.str "value",y]:=by unfold Qp;dsimp only;exact A6 rfl
     rw[O] at e;injection e with e;injection e with e _;injection e with e;exact Aa e ()
    ·have O:Qp (.tup [.str "stuck",.str z])= .tup [.str "stuck",.str z]:=by unfold Qp;dsimp only;exact A4 ()
     rw[O] at e⊢;injection e with e;injection e with _ e
     exact⟨z,e.symm,by show(if("stuck":Str)="stuck" then u_ z else U_)=u_ z;rw[A6 rfl]⟩
 ·refine .inr [c:?_];rw[e];cases r with
  |nil=>rfl
  |cons x r=>
   cases r with
   |cons y r=>cases x<;>rfl
   |nil=>
    cases x with
    |str z=>show(if k="stuck" then u_ z else U_)=U_;rw[A4 c]
    |_=>rfl
inductive Lc (CP:Addr):Sp
 |mk (px:Addr)(n:Str)(qs:List (Str×D))(_:vs= [.ref px,.str n])(_:nm n=v_)(_:jv CP H px qs)(_:QQ qs)(_:∀v H',ie H H'->Is H' (chD qs n) v->Q v H')
section
variable {P:og}{w:oh}{K:o0}{mg:Str->oq o7}{base:o9}{a:Ad}{g:Ga}
def Bl:#[C,16,a.kJ,a.kX,["project","name"],(Lc a.qQ)]:=by
 have O:=#[Pq,T,C];have Qc:=#[DM,T];exists 9,T.lT,y7
 erw[h,px,n,qs,rfl,hn,hP,hq,k];have hs:=uw;exists 3,%[#[qD,(2),y7.nd,#[qy,O,T.my,#v[pv 0,pv 1]]],#[qD,(3),y7.nd,#[Qw,pv 2,T.qF,T.ii,Qc,#v[pv 1]]],#[qK,#[qt,8,QU,#[qJ,qI,pv 3,ql],#[qB,#v[qp,qp]],#[w]],%[|#[qv,#[qB,#v[#[qB,qh],#[qB,qh]]]]],qx],#[qD,(4),y7.nd,#[QA,#v[pv 1]]],#[ji,#[qt,Qk,#[qJ,qI,pv 3,ql],qp],%[#[qD,(5),y7.nd,#[qJ,qI,pv 3,ql]],#[qK,#[qt,8,QU,pv 5,pv 4,#[w]],%[|#[qv,#[qB,#v[#[qR,qP,T.Qr,vc,#v[pv 4]],#[qR,qP,T.Qr,vc,#v[#[Yc,xT,pv 4,#[YT,#[Y4,uJ,PySem.F.slot_list_index,PySem.F.type_list_index,oI,pv 4,#v[pv 5]]],jl]]]]]]],qx],#[Qd,#[Y4,uJ,vh,vi,yF,pv 4,#v[pv 5]]]|#[qD,(3),y7.nd,#[Qw,pv 2,T.qF,T.ii,Qc,#v[pv 5]]]]]|#[qv,#[qB,#v[#[qR,qP,T.Qr,vc,#v[pv 4]],#[qB,qh]]]]]
 exists 8,N1,q1
 exists 0,0,px,n,qs,1,hn,hP,hq,λH1 o rk uk fk don _ hO hl=>q1 _ _ ?_;exists 8,N2,q2;have aZ:=hl
 exists 0,o.x,o.dx,0,hO.oa.e,ZS o _ (),0
 unfold ND;refine Ml hq hO () (Sr hO.dn) λv H2 ap aC l2 K2 i2 nr=>q2 _ _ ?_
 erw[Nm hq nr,kk,rr,ea,aD];rw[ea] at i2;erw[id i2,qa,wa,rfl,aq,w1,r1,rfl,[rfl,aV],h3];exists 8,N3,q3
 exists 0,qa,_,_,0,1,SqT.of aq,Qn (j:=0) rfl,(sml rfl),λt ht=>?_;have s2:=qi ht (.tup [V.str "value",V.str "lack"])
 exists t,0,.inr (SqT.of qk),1,1,0;have au:inV (V.str kk) [V.str "value",V.str "lack"]=decide (kk∈(["value","lack"]:om Str)):=JT kk ["value","lack"];have ac:=aC.same s2;have i3:=i2.mono s2.tk;have aw:=s2 _ _ aq;generalize upd H2 t (.tup [V.str "value",V.str "lack"])=H3 at ac i3 aw⊢;have al:vlO (iL qs n)=decide (kk∈(["value","lack"]:om Str)):=by
  rw[ea];show(decide (kk="value")||decide (kk="lack"))=_
  simp
 by_cases cv:kk∈(["value","lack"]:om Str)
 ·refine lh (au.trans (A9 cv)) ?_
  exists uG _,λt1 h1=>[uG _:λt2 h2=>[(sml rfl):λt3 h3=>?_]];have m1:=qi h1 (.tup ([]:om V));have m2:=qi h2 (.tup ([]:om V));refine k _ _ (((ac.sm.trans m1).trans m2).trans (qi h3 _)) ?_;unfold chD;rw[al,A9 cv,A6 rfl];exact Is.new (ds:= [.tup [],.tup []]) ⟨_,0,(Is.new (ds:= []) rfl h1).mono m2.tk,_,0,Is.new (ds:= []) rfl h2,1⟩ h3
 refine iN (au.trans (ub cv)) (q3 _ _ ?_);have aE:chD qs n=chG (iL qs) 62 [n] (iL qs n):=by
  unfold chD;rw[al,ub cv,A4 ua]
 obtain⟨g0,aF⟩:=Nz hq (by rw[al,ub cv])
 have ax:n∈don.map (·.1):=FR (E9 aF hO.dn);exists 8,N4,q4
 exists 0,(sml rfl),λL hL=>q4 _ _ ?_;exists 8,N5,q5;have s4:=qi hL (.lst [V.str n]);have ay:upd H3 L (.lst [V.str n]) L=u_ (.lst (([n]:om Str).map V.str)):=qk;have aA:=ac.same s4;have i4:=i3.mono s4.tk;have aG:H L=none:=ac.sm.free hL;generalize upd H3 L (.lst [V.str n])=H4 at ay aA i4⊢
 let J_:Nat->L2.St->Hp->Prop:=λmm σ H'=>∃(ns:om Str) (m kk:Str) (rr:om D) (qa:o6) (fk':om (Key×V)) (u5:oq V),mm=61-↑ns/\σ= [u_ (.ref px),u_ (.str n),u_ (.ref o.x),u_ (.ref qa),u_ (.ref L),u5]/\ns.Nodup/\(∀x∈ns,x∈don.map (·.1))/\m∈don.map (·.1)/\1<=↑ns/\H' L=u_ (.lst (ns.map V.str))/\Cz a.qu a.qQ H H' qs n o rk uk fk' don/\↑fk'<=20002+↑ns/\iL qs m= .tup (.str kk::rr)/\Is H' (.tup (.str kk::rr)) (.ref qa)/\((kk="stuck"/\∃x,rr= [.str x]/\ni (iL qs m)=u_ x)∨(kk≠"stuck"/\ni (iL qs m)=U_))/\chG (iL qs) (63-↑ns) ns (iL qs m)=chD qs n
 exists 5
 refine⟨J_,⟨_,[n],n,kk,rr,qa,ap,U_,1,1,by simp,(λx hx=>by cases Ae.mp hx;exact ax),ax,ug _,ay,aA,by show ↑ap<=20003;omega,ea,i4,aD,aE.symm⟩,?_⟩
 rintro mm σ H7 ⟨ns,m,kk,rr,qa,a1,u5,rfl,rfl,ag,aa,aH,a2,U,ad,aW,a3,i7,aI,ae⟩;have aX:=Sq hq hO.dn ag aa;have Z:∀z∈ns,↑z<=100:=λz hz=>by have:=ZX (Abt hq hO.dn (aa z hz));omega
 obtain⟨fu,aJ⟩:∃fu,63-↑ns=fu+1:=[62-↑ns:()]
 rw[aJ] at ae;erw[id i7,a4,wa,e1,ah,w1,r1,rfl,[rfl,aY],aK];cases e1
 exists 0,qa,_,_,0,1,SqT.of ah,Qn (j:=0) rfl,1,0;rcases aI with⟨rfl,x,rfl,hx⟩|⟨aL,hx⟩;rotate_left
 ·refine iN (ub (λz=>aL (V.str.inj z))) (q5 _ _ ?_)
  exists 0,L,0,.inl [SqL.of U:λt1 h1=>?_];have m1:=qi h1 (.tup (ns.map V.str))
  exists uG _,λt2 h2=>[(sml rfl):λt3 h3=>?_];have m2:=qi h2 (.tup ([]:om V));refine k _ _ (((ad.sm.trans m1).trans m2).trans (qi h3 _)) ?_;rw[<-ae];unfold chG;rw[hx];exact Is.new (ds:= [.tup (ns.map D.str),.tup []]) ⟨_,0,⟨t1,0,m2 _ _ qk,Yg Z⟩,_,0,Is.new (ds:= []) rfl h2,1⟩ h3
 refine lh (A9 rfl) ?_
 exists λσ' H'=>∃m',m'<61-↑ns/\J_ m' σ' H',λ_ _ h=>h;erw[aK,w2,r2,rfl,[rfl,a5],aM];cases(show r2= [] from aM)
 have am:=Aag hq hO.dn aH hx;exists 8,B1,b1
 exists 0,qa,_,_,0,1,SqT.of ah,Qn (j:=1) rfl,b1 _ _ ?_;exists 8,B2,b2
 exists 0,0,L,0,.inl (SqL.of U),1,(by rw[Ul];exact List.all_eq_true.mpr λ_ _=>rfl),0
 have ak:inV (V.str x) (ns.map V.str)=decide (x∈ns):=JT x ns;by_cases cx:x∈ns
 ·refine lh (ak.trans (A9 cx)) ?_
  exists 0,L,0,.inl [SqL.of U:λt1 h1=>?_];have m1:=qi h1 (.tup (ns.map V.str));erw[EH cx,aN,aO]
  exists 0,0,.inl [1:_:SqL.of (m1 _ _ U)],0,L,ns,x,ns.idxOf x,1,1,SqL.of (m1 _ _ U),aN,aO,(),0,L,0,SqL.of (m1 _ _ U),λt4 h4=>?_
  have aP:ns.idxOf x<=↑ns:=rP;rw[JU (by rwa[u9]),<-Ht]
  have m4:=qi h4 (.lst ((ns.drop (ns.idxOf x)).map V.str))
  exists t4,0,.inl [SqL.of qk:λt5 h5=>?_];have m5:=qi h5 (.tup ((ns.drop (ns.idxOf x)).map V.str))
  exists (sml rfl),λt6 h6=>?_;refine k _ _ ((((ad.sm.trans m1).trans m4).trans m5).trans (qi h6 _)) ?_;rw[<-ae];unfold chG;rw[hx]
  try dsimp only
  rw[A6 cx];exact Is.new (ds:= [.tup (ns.map D.str),.tup ((ns.drop (ns.idxOf x)).map D.str)]) ⟨_,0,⟨t1,0,m5 _ _ (m4 _ _ qk),Yg Z⟩,_,0,⟨t5,0,qk,Yg λz hz=>Z z (vX hz)⟩,1⟩ h6
 ·refine iN (ak.trans (ub cx)) (b2 _ _ ?_);exists 8,B3,b3
  exists 0,.inl [1:_:SqL.of U],0,L,_,0,1,U,(by rw[u9];omega),b3 _ _ ?_
  have kL:Kp [L] H7 (upd H7 L (.lst (ns.map V.str++ [V.str x]))):=⟨λb ob e nb=>by rwa[qm (λz=>nb (Ae.mpr z))],Tk.updL U⟩
  have af:=ad.awayL kL U (λb ob e=>by rw[qm (qo e aG)];exact ad.sm _ _ e)
  have ao:upd H7 L (.lst (ns.map V.str++ [V.str x])) L=u_ (.lst ((ns++ [x]).map V.str)):=by rw[qk,uh];rfl
  generalize upd H7 L (.lst (ns.map V.str++ [V.str x]))=H8 at af ao⊢
  exists 0,o.x,o.dx,0,af.oa.e,ZS o _ (),0
  unfold ND;refine Ml hq af () (.inr am) λv H9 aQ aR l9 K9 i9 aS=>?_
  erw[Nm hq aS,k9,r9,aB,aT];rw[aB] at i9;erw[id i9,q9,w9,rfl,_];have aU:L≠o.df:=λz=>by have:=af.df;rw[<-z,ao] at this;cases this
  exists 5
  refine⟨61-↑(ns++ [x]),by rw[uq,uU];omega,ns++ [x],x,k9,r9,q9,aQ,0,1,?_,λy hy=>?_,am,(by rw[uq,uU];omega),K9.kept _ _ ao (λz=>aU (Ae.mp z)),aR,(by rw[uq,uU];omega),aB,i9,aT,?_⟩
  ·exact(vR (l₁:= [x]) (l₂:=ns)).nodup_iff.mp (List.nodup_cons.mpr [cx:ag])
  ·rcases Af.mp hy with hy|hy
   ·exact aa y hy
   ·cases Ae.mp hy;exact am
  ·rw[<-ae];show _=chG (iL qs) (fu+1) ns (iL qs m)
   conv=>rhs;unfold chG
   rw[hx]
   try dsimp only
   rw[A4 cx,show 63-↑(ns++ [x])=fu by rw[uq,uU];omega]
inductive Ab2 (qs:List (Str×D))(m k:Str)(x:D):Prop
 |said (h0:k="said")(h1:vlO (iL qs m)=v_):Ab2 qs m k x
 |fault (h0:k="fault")(h1:vlO (iL qs m)=Vh)(h2:ni (iL qs m)=U_):Ab2 qs m k x
 |stuck (z:Str)(s:Gp)(h0:k="stuck")(h1:vlO (iL qs m)=Vh)(h2:x= .str z)(h3:ni (iL qs m)=u_ z)(h4:g0D z (qG qs z)=u_ s)(h5:vlO (iL qs z)=Vh):Ab2 qs m k x
def Z3 {s:Gp}(O:g0D m (qG qs m)=u_ s)(U:(itP qs 302 s).en=u_ e):iL qs m=Qp e:=by
 unfold iL;rw[O]
 try dsimp only
 rw[U]
 rfl
def Ace (h:EnS e):vlO (Qp e)=Vh∨∃y,e= .tup [.str "said",y]:=by
 rcases h with⟨z,rfl⟩|⟨y,rfl,_⟩|⟨z,rfl⟩
 ·have O:Qp (flt z)=flt z:=by unfold Qp flt;dsimp only;exact A4 ()
  rw[O];exact .inl (by unfold flt vlO;dsimp only;decide+kernel)
 ·exact .inr [y:1]
 ·have O:Qp (.tup [.str "stuck",.str z])= .tup [.str "stuck",.str z]:=by unfold Qp;dsimp only;exact A4 ()
  rw[O];exact .inl (by unfold vlO;dsimp only;decide+kernel)
def Ni (hq:QQ qs){s:Gp}(hg:g0D m (qG qs m)=u_ s):∃k x,Ac3 (itP qs 302 s)= .tup [.str k,x]/\Ab2 qs m k x:=by
 have hf:=XH hg;unfold Ac3;cases he:(itP qs 302 s).en with
 |none=>rw[he] at hf;cases hf
 |some e=>
  have ha:=Z3 hg he;have hE:=(oR hq hg 302).1.en e he;rcases id hE with⟨z,rfl⟩|⟨y,rfl,_⟩|⟨z,rfl⟩
  ·have Z:Qp (flt z)=flt z:=by unfold Qp flt;dsimp only;exact A4 ()
   rw[Z] at ha;exact⟨"fault",0,.fault rfl (by rw[ha];unfold flt vlO;dsimp only;decide+kernel) (by rw[ha];show(if("fault":Str)="stuck" then u_ z else U_)=U_;exact A4 ())⟩
  ·have Z:Qp (.tup [.str "said",y])= .tup [.str "value",y]:=by unfold Qp;dsimp only;exact A6 rfl
   rw[Z] at ha;exact⟨"said",0,.said rfl (by rw[ha];unfold vlO;dsimp only;rw[A9 rfl];rfl)⟩
  ·have Z:Qp (.tup [.str "stuck",.str z])= .tup [.str "stuck",.str z]:=by unfold Qp;dsimp only;exact A4 ()
   rw[Z] at ha;erw[CT hq hg 302 he,i,h1,h2,h3];cases U:g0D z (qG qs z) with
   |none=>
    rw[show FP qs z=_ from Sy.zi (Qg qs) U] at h3
    cases h3
   |some s'=>
    exists "stuck",0,.stuck z s' rfl (by rw[ha];unfold vlO;dsimp only;decide+kernel) rfl (by rw[ha];show(if("stuck":Str)="stuck" then u_ z else U_)=u_ z;exact A6 rfl) U ?_
    have aa:=XH U;cases O:(itP qs 302 s').en with
    |none=>rw[O] at aa;cases aa
    |some e'=>
     rw[Z3 U O];rcases Ace ((oR hq U 302).1.en e' O) with h|⟨y,rfl⟩
     ·exact h
     ·have hF:FP qs z=_:=Sy.F_run (Qg qs) U;have hs:Yl (itP qs 302 s')=u_ y:=by
       unfold Yl;rw[O]
       rfl
      rw[h3,show(SyP qs).said (Sy.it (SyP qs) (Sy.F (SyP qs)) (SyP qs).M s')=Yl (itP qs 302 s') from rfl,hs] at hF
      cases hF
def MA {rr:om (Str×D)}{vr:om (Str×V)}(hq:QQ qs)(U:BW qs rr (qs.map (·.1)))(aa:vr.map (·.1)=rr.map (·.1))(ac:L2.IsL H (rr.map (·.2)) (vr.map (·.2))){s:Gp}(hg:g0D m (qG qs m)=u_ s):∃(qa:o6) (xa:V) (qe:o6) (k:Str) (w2:V) (x:D),iR (iy vr) (Vj m)=u_ (.ref qa)/\H qa=u_ (.tup [xa,.ref qe])/\H qe=u_ (.tup [.str k,w2])/\Is H x w2/\Ab2 qs m k x:=by
 have O:=(Qg qs).gn m s hg;have cm:m∈rr.map (·.1):=(U.keys m).mpr ⟨O,by rw[hg];intro z;cases z⟩
 erw[WW aa ac cm,l1,l2];erw[Ni hq hg,k,x,ee,hE];rw[U.dat m s O hg,show Xv (Sy.it (SyP qs) (Sy.F (SyP qs)) 302 s)= .tup [Ade (itP qs 302 s),Ac3 (itP qs 302 s)] from rfl,ee] at l2
 erw[l2,qa,wa,e1,ad,xa,ra,rfl,ah,xe,re,rfl,ae,Z];cases(show re= [] from Z)
 erw[ae,qe,we,rfl,af,w1,r1,rfl,[rfl,_],w2,r2,rfl,ag,h0];cases(show r2= [] from h0)
 exact⟨qa,xa,qe,k,w2,x,by rw[l1,e1],ad,af,ag,hE⟩
nonrec def chW (qs:om (Str×D)) (ns:om Str) (m:Str):D:=if m∈ns then .tup [.tup (ns.map D.str),.tup ((ns.drop (ns.idxOf m)).map D.str)] else chG (iL qs) (62-↑ns) (ns++ [m]) (iL qs m)
inductive Dd:Sp
 |mk (rd:Addr)(n:Str)(qs rr:List (Str×D))(_:vs= [.ref rd,.str n])(_:nm n=v_)(_:QQ qs)(_:Yr H rd rr)(_:BW qs rr (qs.map (·.1)))(_:∀v H',ie H H'->Is H' (chD qs n) v->Q v H')
def D2:#[T,1,a.wv,a.Wk,["runs","name"],Dd]:=by
 exists 9,T.mO,Jo
 erw[h,rd,n,qs,rr,rfl,hn,hq,hR,ad,k];have hs:=uw;exists 3,%[#[qD,(2),Jo.nd,#[QA,qh]],@qK _ _ _ _ _ _ _ _ #[ZT,#[xF,#[JX,Qs hr,pv 1,pv 0]],#[xJ,#[qt,Qk,#[qJ,qI,#[qJ,qI,#[Ql,pv 1],ql],ql],qp]]].pt %[|#[qv,#[qB,#v[#[qB,qh],#[qB,qh]]]]] qx,#[ji,#[qt,8,oB,pv 1,pv 2,#[w]],%[#[Qd,#[Y4,uJ,vh,vi,yF,pv 2,#v[pv 1]]],#[qK,#[qt,Qk,#[qJ,qI,#[qJ,qI,#[Ql,pv 1],ql],ql],qp],%[|#[qv,#[qB,#v[#[qR,qP,T.Qr,vc,#v[pv 2]],#[qB,qh]]]]],qx]|#[qD,(1),Jo.nd,#[qJ,qI,#[qJ,qI,#[Ql,pv 1],ql],ql]]]]|#[qv,#[qB,#v[#[qR,qP,T.Qr,vc,#v[pv 2]],#[qR,qP,T.Qr,vc,#v[#[Yc,xT,pv 2,#[YT,#[Y4,uJ,PySem.F.slot_list_index,PySem.F.type_list_index,oI,pv 2,#v[pv 1]]],jl]]]]]]]
 exists 8,N1,q1
 exists uG _,λL hL=>q1 _ _ ?_;exists 8,N2,q2;have s1:=qi hL (.lst ([]:om V));have ah:upd H L (.lst []) L=u_ (.lst (([]:om Str).map V.str)):=qk;have ak:=hR.same s1;generalize upd H L (.lst [])=H1 at s1 ah ak⊢;erw[id ak,vr,al,am,aC];have nil:chD qs n= .tup [.tup [],.tup []]->∀t1 t2 t3 H2,ie H H2->H2 t1=U_->upd H2 t1 (.tup []) t2=U_->upd (upd H2 t1 (.tup [])) t2 (.tup []) t3=U_->Q (.ref t3) (upd (upd (upd H2 t1 (.tup [])) t2 (.tup [])) t3 (.tup [.ref t1,.ref t2])):=λe t1 t2 t3 H2 s2 h1 h2 h3=>by
  have m1:=qi h1 (.tup ([]:om V));have m2:=qi h2 (.tup ([]:om V));refine k _ _ (((s2.trans m1).trans m2).trans (qi h3 _)) ?_;rw[e];exact Is.new (ds:= [.tup [],.tup []]) ⟨_,0,(Is.new (ds:= []) rfl h1).mono m2.tk,_,0,Is.new (ds:= []) rfl h2,1⟩ h3
 exists 0,0,rd,0,mx.k (k:=Vj n) al
 exists 0;cases hg:g0D n (qG qs n) with
 |none=>
  have cm:n∉rr.map (·.1):=λz=>((ad.keys n).mp z).2 hg;rw[An (z:=n) (by rwa[am])]
  refine lh rfl (lj ?_)
  exists uG _,λt1 h1=>[uG _:λt2 h2=>[(sml rfl):λt3 h3=>?_]];refine nil ?_ t1 t2 t3 H1 s1 h1 h2 h3;unfold chD;cases hv:vlO (iL qs n) with
  |true=>exact A6 rfl
  |false=>
   erw[Nz hq hv,g1,ao];rw[hg] at ao;cases ao
 |some s0=>
  erw[MA hq ad am aC hg,qa,xa,qe,kk,w2,x,e1,e2,e3,e4,hE];rw[e1];refine iN rfl ?_
  exists 0,0,rd,0,(by rw[<-e1];exact mx.k (k:=Vj n) al),qa,_,_,0,1,SqT.of e2,Qn (j:=1) rfl,qe,_,_,0,1,SqT.of e3,Qn (j:=0) rfl,1,0
  by_cases ck:kk="said"
  ·refine lh (A9 (by rw[ck])) ?_
   exists uG _,λt1 h1=>[uG _:λt2 h2=>[(sml rfl):λt3 h3=>?_]];refine nil ?_ t1 t2 t3 H1 s1 h1 h2 h3;have hv:vlO (iL qs n)=true:=by
    rcases hE with⟨_,h⟩|⟨h,_⟩|⟨_,_,h,_⟩
    ·exact h
    ·rw[ck] at h;exact Aa h ()
    ·rw[ck] at h;exact Aa h ()
   unfold chD;rw[hv];exact A6 rfl
  refine iN (ub λz=>ck (V.str.inj z)) (q2 _ _ ?_);have hv:vlO (iL qs n)=false:=by
   rcases hE with⟨h,_⟩|⟨_,h,_⟩|⟨_,_,_,h,_⟩
   ·exact Aa h ck
   ·exact h
   ·exact h
  have ec:chW qs [] n=chD qs n:=by
   unfold chW chD;rw[A4 uA,hv,A4 ua]
   rfl
  exists 8,N3,q3
  let J_:Nat->L2.St->Hp->Prop:=λmm σ H'=>∃(ns:om Str) (m:Str) (s:Gp),mm=61-↑ns/\σ= [u_ (.ref rd),u_ (.str m),u_ (.ref L)]/\ns.Nodup/\(∀x∈ns,x∈qs.map (·.1))/\g0D m (qG qs m)=u_ s/\vlO (iL qs m)=Vh/\H' L=u_ (.lst (ns.map V.str))/\ie H H'/\chW qs ns m=chD qs n
  exists J_,⟨_,[],n,s0,1,1,vO,(λ_ hx=>by cases hx),hg,hv,ah,s1,ec⟩
  rintro mm σ H7 ⟨ns,m,s,rfl,rfl,ap,ae,aq,aD,O,s7,Z⟩;have aK:↑ns<=60:=by
   have:=XD ap ae;rw[u9] at this;exact uL this hq.2.2
  have U:∀z∈ns,↑z<=100:=λz hz=>by have:=ZX (hq.1.1.1 z (ae z hz));omega
  exists 0,0,L,0,.inl (SqL.of O),1,(by rw[Ul];exact List.all_eq_true.mpr λ_ _=>rfl),0
  have aa:inV (V.str m) (ns.map V.str)=decide (m∈ns):=JT m ns;by_cases cx:m∈ns
  ·refine iN (by rw[aa,A9 cx];rfl) (q3 _ _ ?_)
   exists 0,L,0,.inl [SqL.of O:λt1 h1=>?_];have m1:=qi h1 (.tup (ns.map V.str));erw[EH cx,aE,aF]
   exists 0,0,.inl [1:_:SqL.of (m1 _ _ O)],0,L,ns,m,ns.idxOf m,1,1,SqL.of (m1 _ _ O),aE,aF,(),0,L,0,SqL.of (m1 _ _ O),λt4 h4=>?_
   have aG:ns.idxOf m<=↑ns:=rP;rw[JU (by rwa[u9]),<-Ht]
   have m4:=qi h4 (.lst ((ns.drop (ns.idxOf m)).map V.str))
   exists t4,0,.inl [SqL.of qk:λt5 h5=>?_];have m5:=qi h5 (.tup ((ns.drop (ns.idxOf m)).map V.str))
   exists (sml rfl),λt6 h6=>?_;refine k _ _ ((((s7.trans m1).trans m4).trans m5).trans (qi h6 _)) ?_;rw[<-Z];unfold chW;rw[A6 cx];exact Is.new (ds:= [.tup (ns.map D.str),.tup ((ns.drop (ns.idxOf m)).map D.str)]) ⟨_,0,⟨t1,0,m5 _ _ (m4 _ _ qk),Yg U⟩,_,0,⟨t5,0,qk,Yg λz hz=>U z (vX hz)⟩,1⟩ h6
  refine lh (by rw[aa,ub cx];rfl) ?_
  exists λσ' H'=>∃m',m'<61-↑ns/\J_ m' σ' H',λ_ _ h=>h;exists 8,B1,b1
  exists 0,.inl [1:_:SqL.of O],0,L,_,0,1,O,(by rw[u9];omega),b1 _ _ ?_
  exists 8,B2,b2;have af:upd H7 L (.lst (ns.map V.str++ [V.str m])) L=u_ (.lst ((ns++ [m]).map V.str)):=by rw[qk,uh];rfl
  have s8:ie H (upd H7 L (.lst (ns.map V.str++ [V.str m]))):=λb ob e=>by rw[qm (qo e hL)];exact s7 _ _ e
  generalize upd H7 L (.lst (ns.map V.str++ [V.str m]))=H8 at af s8⊢;erw[hR.same s8,aL,ac,au,aw];erw[MA hq ad au aw aq,ax,aM,ay,k8,w8,x8,f1,f2,f3,f4,aH];have aA:m∈qs.map (·.1):=(Qg qs).gn m s aq;have aI:↑m<=100:=by have:=ZX (hq.1.1.1 m aA);omega
  have ag:∀z∈ns++ [m],↑z<=100:=λz hz=>by
   rcases Af.mp hz with hz|hz
   ·exact U z hz
   ·cases Ae.mp hz;exact aI
  obtain⟨fu,aJ⟩:∃fu,62-↑ns=fu+1:=[61-↑ns:()]
  unfold chW at Z;rw[A4 cx,aJ] at Z;unfold chG at Z
  exists 0,0,rd,0,(by rw[<-f1];exact mx.k (k:=Vj m) ac),ax,_,_,0,1,SqT.of f2,Qn (j:=1) rfl,ay,_,_,0,1,SqT.of f3,Qn (j:=0) rfl,1,0
  rcases aH with⟨_,h⟩|⟨rfl,_,h2⟩|⟨z,s',rfl,_,rfl,h3,h4,h5⟩
  ·rw[aD] at h;cases h
  ·refine lh (A9 rfl) ?_
   exists 0,L,0,.inl [SqL.of af:λt1 h1=>?_];have m1:=qi h1 (.tup ((ns++ [m]).map V.str))
   exists uG _,λt2 aB=>[(sml rfl):λt3 h3=>?_];have m2:=qi aB (.tup ([]:om V));refine k _ _ (((s8.trans m1).trans m2).trans (qi h3 _)) ?_;rw[<-Z,h2];exact Is.new (ds:= [.tup ((ns++ [m]).map D.str),.tup []]) ⟨_,0,⟨t1,0,m2 _ _ qk,Yg ag⟩,_,0,Is.new (ds:= []) rfl aB,1⟩ h3
  ·refine iN (ub λy=>Aa (V.str.inj y) ()) (b2 _ _ ?_)
   cases(show w8= .str z from f4.1)
   exists 0,0,rd,0,(by rw[<-f1];exact mx.k (k:=Vj m) ac),ax,_,_,0,1,SqT.of f2,Qn (j:=1) rfl,ay,_,_,0,1,SqT.of f3,Qn (j:=1) rfl
   exists 5
   refine⟨61-↑(ns++ [m]),by rw[uq,uU];omega,ns++ [m],z,s',1,1,?_,λy hy=>?_,h4,h5,af,s8,?_⟩
   ·exact(vR (l₁:= [m]) (l₂:=ns)).nodup_iff.mp (List.nodup_cons.mpr [cx:ap])
   ·rcases Af.mp hy with hy|hy
    ·exact ae y hy
    ·cases Ae.mp hy;exact aA
   ·rw[<-Z,h3];unfold chW;rw[show 62-↑(ns++ [m])=fu by rw[uq,uU];omega]
nonrec def nu (F:Str->D):Str->om Str->Str->Prop
 |a,[],b=>ni (F a)=u_ b
 |a,x::t,b=>ni (F a)=u_ x/\nu F x t b
def nu.cut {F:Str->D}{b x:Str}{t2:om Str}:∀{t1:om Str}{a:Str},nu F a (t1++x::t2) b->nu F a t1 x/\nu F x t2 b
 | [],_,h=>h
 |_::_,_,h=>[[h.1:(nu.cut h.2).1]:(nu.cut h.2).2]
def nu.join {F:Str->D}{b:Str}{t2:om Str}(h2:nu F x t2 b):∀{t1:om Str}{a:Str},nu F a t1 x->nu F a (t1++x::t2) b
 | [],_,h=>[h:h2]
 |_::_,_,h=>[h.1:h2.join h.2]
nonrec def chR (ns:om Str)(b:Str):D:= .tup [.tup (ns.map D.str),.tup ((ns.drop (ns.idxOf b)).map D.str)]
def Ik {F:Str->D}{b:Str}:∀(t pre:om Str) (a:Str) (k:Nat),(pre++a::t).Nodup->nu F a t b->b∈pre++a::t->↑t<k->chG F k (pre++ [a]) (F a)=chR (pre++a::t) b
 | [],pre,a,k+1,_,h,hb,_=>by
  unfold chG;rw[show ni (F a)=u_ b from h]
  try dsimp only
  rw[A6 hb]
  rfl
 |x::t,pre,a,k+1,hn,h,hb,hk=>by
  have e:pre++a::x::t=(pre++ [a])++x::t:=by simp
  have O:x∉pre++ [a]:=λz=>by
   rw[e] at hn;exact(List.nodup_append.mp hn).2.2 x z x ue rfl
  unfold chG;rw[h.1]
  try dsimp only
  rw[A4 O,e];exact Ik t (pre++ [a]) x k (by rwa[<-e]) h.2 (by rwa[<-e]) (by rw[uj] at hk;omega)
 |_,_,_,0,_,_,_,hk=>Aa hk (HE _)
def Acs (O:QQ qs){a:Str}{s:Gp}(U:g0D a (qG qs a)=u_ s)(h:ni (iL qs a)=u_ x):∃s',g0D x (qG qs x)=u_ s':=by
 erw[Ni O U,k,d,_,Z];rcases Z with⟨_,h1⟩|⟨_,_,h1⟩|⟨z,s',_,_,_,h1,h2,_⟩
 ·exfalso;cases hd:iL qs a with
  |tup l=>
   rw[hd] at h h1
   match l,h,h1 with
   | [.str k,.str y],h,h1=>
    have h:(if k="stuck" then u_ y else U_)=u_ x:=h
    have h1:(decide (k="value")||decide (k="lack"))=true:=h1
    by_cases c:k="stuck"
    ·rw[c] at h1;exact Aa h1 ()
    ·rw[A4 c] at h;cases h
  |_=>rw[hd] at h;cases h
 ·rw[h] at h1;cases h1
 ·rw[h] at h1;cases h1;exact[s':h2]
def Il {qs:om (Str×D)}(Z:QQ qs):∀(k:Nat) (pre:om Str) (a:Str) (s:Gp),g0D a (qG qs a)=u_ s->(pre++ [a]).Nodup->(∀x∈pre,x∈qs.map (·.1))->61<=k+↑pre->
  ∃t,(pre++a::t).Nodup/\(∀x∈a::t,x∈qs.map (·.1))/\(chG (iL qs) k (pre++ [a]) (iL qs a)= .tup [.tup ((pre++a::t).map D.str),.tup []]∨∃b,nu (iL qs) a t b/\b∈pre++a::t/\chG (iL qs) k (pre++ [a]) (iL qs a)=chR (pre++a::t) b)
 |0,pre,a,s,hg,hn,hin,hk=>by
  have:=XD hn (m:=qs.map (·.1)) λx O=>by
   rcases Af.mp O with O|O
   ·exact hin x O
   ·cases Ae.mp O;exact(Qg qs).gn a s hg
  rw[uq,u9] at this;have:=Z.2.2;omega
 |k+1,pre,a,s,hg,hn,hin,hk=>by
  have ha:=(Qg qs).gn a s hg;have one:∀x∈ [a],x∈qs.map (·.1):=λx O=>by cases Ae.mp O;exact ha
  unfold chG;cases O:ni (iL qs a) with
  |none=>exact⟨[],hn,one,.inl rfl⟩
  |some x=>
   try dsimp only
   by_cases c:x∈pre++ [a]
   ·rw[A6 c];exact⟨[],hn,one,.inr ⟨x,O,c,1⟩⟩
   ·rw[A4 c];erw[Acs Z hg O,s',aa];obtain⟨t,h1,h2,h3⟩:=Il Z k (pre++ [a]) x s' aa ((vR (l₁:= [x]) (l₂:=pre++ [a])).nodup_iff.mp (List.nodup_cons.mpr [c:hn])) (λy U=>by
     rcases Af.mp U with U|U
     ·exact hin y U
     ·exact one y U) (by rw[uq,uU];omega)
    have e:(pre++ [a])++x::t=pre++a::x::t:=by simp
    rw[e] at h1 h3;exists x::t,h1,λy U=>?_,?_
    ·rcases Ac.mp U with rfl|U
     ·exact ha
     ·exact h2 y U
    ·rcases h3 with h3|⟨b,p1,p2,p3⟩
     ·exact .inl h3
     ·exact .inr ⟨b,[O:p1],p2,p3⟩
def Mt {d:D}(h:ni d=u_ x):vlO d=false:=by
 cases d with
 |tup l=>
  match l,h with
  | [.str k,.str y],h=>
   have h:(if k="stuck" then u_ y else U_)=u_ x:=h
   by_cases c:k="stuck"
   ·rw[c];unfold vlO;dsimp only;decide+kernel
   ·rw[A4 c] at h;cases h
 |_=>cases h
def nu.nv {F:Str->D}{a b:Str}{t:om Str}(h:nu F a t b):vlO (F a)=false:=by
 cases t with
 |nil=>exact Mt h
 |cons x t=>exact Mt h.1
def AX {o:Str}{t:om Str}(hn:(o::t).Nodup)(U:↑(o::t)<=60)(O:nu (iL qs) o t o):chD qs o= .tup [.tup ((o::t).map D.str),.tup ((o::t).map D.str)]:=by
 have h3:=Ik (b:=o) t [] o 62 hn O ue (by rw[uj] at U;omega)
 unfold chD;rw[O.nv,A4 ua];have e:chG (iL qs) 62 [o] (iL qs o)=chR (o::t) o:=h3;rw[e];unfold chR;rw[UN]
 rfl
def AY (hq:QQ qs){b:Str}{v:om Str}(hn:(b::v).Nodup)(hl:↑(b::v)<=60)(hp:nu (iL qs) b v b){o:Str}(ho:o∈b::v):∃Z:om Str,chD qs o= .tup [.tup (Z.map D.str),.tup (Z.map D.str)]/\Z.Perm (b::v):=by
 have O:∀t:om Str,(o::t).Perm (b::v)->nu (iL qs) o t o->chD qs o= .tup [.tup ((o::t).map D.str),.tup ((o::t).map D.str)]:=λt h1 h2=>AX (h1.nodup_iff.mpr hn) (by rwa[h1.length_eq]) h2
 by_cases c:o=b
 ·subst c;exact[_:O v (.refl _) hp:.refl _]
 ·have hv:o∈v:=by
   rcases Ac.mp ho with h|h
   ·exact Aa h c
   ·exact h
  erw[Rb hv,t1,t2,rfl];erw[hp.cut,p1,p2];have U:(o::(t2++b::t1)).Perm (b::(t1++o::t2)):=by
   have h1:((o::t2)++(b::t1)).Perm ((b::t1)++(o::t2)):=vR;exact h1
  exact[_:O _ U (p1.join p2):U]
def Ada (hq:QQ qs)(n:Str):∃ns rs:om Str,chD qs n= .tup [.tup (ns.map D.str),.tup (rs.map D.str)]/\(∀z∈ns,nm z=v_)/\(∀z∈rs,nm z=v_)/\↑rs<=60/\∀o∈rs,∃ms:om Str,chD qs o= .tup [.tup (ms.map D.str),.tup (ms.map D.str)]/\ms.Perm rs:=by
 cases hv:vlO (iL qs n) with
 |true=>
  exists [],[],?_,(λz O=>by cases O),(λz O=>by cases O),uG _,λz O=>by cases O
  unfold chD;rw[hv];exact A6 rfl
 |false=>
  erw[Nz hq hv,s,hg];have e0:chD qs n=chG (iL qs) 62 [n] (iL qs n):=by
   unfold chD;rw[hv];exact A4 ua
  obtain⟨t,h1,h2,h3⟩:=Il hq 62 [] n s hg (by simp) (λx hx=>by cases hx) ()
  have h1:(n::t).Nodup:=h1;have Z:∀z∈n::t,nm z=true:=λz O=>hq.1.1.1 z (h2 z O);have U:↑(n::t)<=60:=by
   have:=XD h1 h2;rw[u9] at this;exact uL this hq.2.2
  rcases h3 with h3|⟨b,p1,p2,p3⟩
  ·exact⟨n::t,[],e0.trans h3,Z,(λz O=>by cases O),uG _,λz O=>by cases O⟩
  ·have p2:b∈n::t:=p2;refine⟨n::t,(n::t).drop ((n::t).idxOf b),e0.trans p3,Z,λz O=>Z z (vX O),by rw[vG];omega,λo ho=>?_⟩
   by_cases c:b=n
   ·subst c;rw[UN] at ho⊢;exact AY hq h1 U p1 ho
   ·have aa:b∈t:=by
     rcases Ac.mp p2 with h|h
     ·exact Aa h c
     ·exact h
    erw[Rb aa,t1,t2,rfl];erw[p1.cut,_,q2];have ac:b∉n::t1:=λz=>by
     have:((n::t1)++b::t2).Nodup:=h1;exact(List.nodup_append.mp this).2.2 b z b ue rfl
    have ed:(n::(t1++b::t2)).drop ((n::(t1++b::t2)).idxOf b)=b::t2:=by
     rw[show n::(t1++b::t2)=(n::t1)++b::t2 from rfl,List.idxOf_append,A4 ac,UN,HC,List.drop_left]
    rw[ed] at ho⊢;refine AY hq ?_ ?_ q2 ho
    ·exact(List.nodup_append.mp (show((n::t1)++b::t2).Nodup from h1)).2.1
    ·have:↑((n::t1)++b::t2)<=60:=U;rw[uq] at this;omega
def Aay {d:D}(h:Nr ps)(hn:nm z=v_)(hd:xn d):Nr (mT ps z d)/\↑(mT ps z d)<=↑ps+1:=by
 unfold mT;by_cases c:z∈ps.map (·.1)
 ·rw[A6 c];refine⟨⟨by rw[Z6];exact h.1,λp O=>?_⟩,by unfold nI;rw[u9];omega⟩
  erw[Ag.mp O,p0,Z,rfl];split
  ·exact hd
  ·exact h.2 p0 Z
 ·rw[A4 c];refine⟨[[λy U=>?_:?_]:λp O=>?_],by rw[uq];exact ug _⟩
  ·rw[uh] at U;rcases Af.mp U with U|U
   ·exact h.1.1 y U
   ·cases Ae.mp U;exact hn
  ·rw[uh,Tp];exists h.1.2,by simp,λa ha b hb e=>?_
   cases Ae.mp hb;rw[e] at ha;exact c ha
  ·rcases Af.mp O with O|O
   ·exact h.2 p O
   ·cases Ae.mp O;exact hd
nonrec def R4:om Str:= ["g","h9","k","m/n"]
def OG:∀z∈R4,nm z=v_/\↑z<=4/\z∈A60:=by decide+kernel
structure IE (ps:om (Str×D)):Prop where
 ok:Nr ps
 sh:∀p∈ps,↑p.1<=4/\p.1∈A60
def IE.few (h:IE ps):↑ps<=60:=by
 have:=XD h.ok.1.2 (m:=A60) λx O=>by
  erw[Ag.mp O,p,U,rfl];exact(h.sh p U).2
 rwa[u9] at this
def IE.put {d:D}(h:IE ps)(U:z∈R4)(hd:xn d):IE (mT ps z d):=by
 erw[OG z U,h1,h2,h3];exists (Aay h.ok h1 hd).1,λp Z=>?_;have hm:=(JB (x:=p.1)).mp (Up Z);rcases hm with e|e
 ·rw[e];exact[h2:h3]
 ·erw[Ag.mp e,p0,O,e0];rw[<-e0];exact h.sh p0 O
nonrec def ln1 (to:Str)(b:Bool):om Str:=if b=v_ then ["text a "++to,"put a b","ask b a"] else ["text a "++to,"ask b a","say b"]
def Aa2 {to:Str}(h:to∈R4)(b:Bool):↑(ln1 to b)=3/\∀y∈ln1 to b,Wd 20 y:=by
 erw[OG to h,h1,h2,_];have ta:Wd 7 "text a ":=[():ug _]
 have Z:Wd 4 to:=[kK h1:h2];have U:=ta.cat Z (k:=20) ()
 cases b with
 |true=>exact⟨1,λy O=>by
   have O:y∈ ["text a "++to,"put a b","ask b a"]:=O;simp![uC,uA,uP] at O;rcases O with rfl|rfl|rfl
   ·exact U
   ·exact[():()]
   ·exact[():()]⟩
 |false=>exact⟨1,λy O=>by
   have O:y∈ ["text a "++to,"ask b a","say b"]:=O;simp![uC,uA,uP] at O;rcases O with rfl|rfl|rfl
   ·exact U
   ·exact[():()]
   ·exact[():()]⟩
inductive Da (K:PySem.W.Frag):Sp
 |mk (q L:Addr)(ns:List Int)(ps:List (Str×D))(us:List V)(_:vs= [.ref q,.ref L])(_:SqL K H q (ns.map V.int))(_:H L=u_ (.lst us))(_:L2.IsL H (ps.map prD) us)(_:IE ps)(_:∀(d:Addr)(ps':List (Str×D))(H':Hp),ie H H'->H d=U_->Yr H' d ps'->IE ps'->Q (.ref d) H')
def DU:#[T,2,a.Zj,a.Zs,["script","pairs"],(Da K)]:=by
 have QI:=#[Aj,T];refine T.mB.F.ok QM () (λ_ _ _ _ H vs Q E hr h=>?_)
 erw[h,q,L,ns,ps,us,rfl,hq,hL,aB,ad,k];have hs:=uw;exists 3,%[#[qD,(2),QM.nd,#[Yc,xT,#[QA,#v[qp,qp,qp,qp]],jl,#[YT,#[qS,yf,ql,#[qS,yS,#[qy,QI,T.ix,#v[pv 0,ql]],ql]]]]],#[qD,(3),QM.nd,#[qR,#[Zg,1,rfl],T.z_dict,Ho,#v[pv 1]]],#[Yh,#[yN,#v[#[qA,qL,T.yh,uH,#v[pv 2]]]],#[qU,(4),QM.nd],%[#[qD,(5),QM.nd,#[qJ,QN,pv 2,#[qS,yS,#[qS,yf,pv 4,ql],#[qA,qL,T.yh,uH,#v[pv 2]]]]],#[qD,(6),QM.nd,#[QA,#v[#[qS,Qb,qp,pv 5],qp,qp]]],@qK _ _ _ _ _ _ _ _ #[zm,#[qt,Qk,#[qS,yS,#[qS,zy,#[qy,QI,T.ix,#v[pv 0,ql]],ql],ql],ql],#[Jy,#[qt,Qk,pv 4,#[qS,DE,#[qA,qL,T.yh,uH,#v[pv 2]],ql]]]].pt %[|#[qD,(6),QM.nd,#[QA,#v[#[qS,Qb,qp,pv 5],qp,qp]]]] qx,@qK _ _ _ _ _ _ _ _ #[zm,#[qt,Qk,#[qS,yS,#[qS,zy,#[qy,QI,T.ix,#v[pv 0,ql]],ql],ql],ql],#[Jy,#[qt,Qk,pv 4,ql]]].pt %[|#[qD,(6),QM.nd,#[qS,WO,#[QA,#v[qp,qp]],pv 6]]] qx|#[YO,pv 3,#[qJ,QN,pv 2,pv 4],#[qB,#v[qp,#[qR,qP,T.Qr,vc,#v[pv 6]]]]]]]|#[qv,pv 3]]
 exists 8,N1,q1
 exists sml rfl,λl0 ao=>?_;have s0:=qi ao (.lst (R4.map V.str));have e0:(upd H l0 (.lst (R4.map V.str))) l0=u_ (.lst (R4.map V.str)):=qk
 exists 0,q,ns,(2),1,(),qam hq s0,λc=>?_
 have m1:0<=c%4/\c%4<4:=[vF _ ():vq _ ()]
 obtain⟨n,hn,aO,aP⟩:∃n:Nat,1+c%4=(n:Int)/\1<=n/\n<=4:=⟨(1+c%4).toNat,(),(),()⟩
 exists _,0,1,(by show(0:Int)<4;decide),_,0,1
 try dsimp only
 rw[hn]
 exists 0,l0,0,SqL.of e0,λl hl=>q1 _ _ ?_;rw[Z2,<-HF];have s1:ie H (upd (upd H l0 (.lst (R4.map V.str))) l (.lst ((R4.take n).map V.str))):=s0.trans (qi hl (.lst ((R4.take n).map V.str)));have el:(upd (upd H l0 (.lst (R4.map V.str))) l (.lst ((R4.take n).map V.str))) l=u_ (.lst ((R4.take n).map V.str)):=qk;show cl _ _ _ _ _ (upd (upd H l0 (.lst (R4.map V.str))) l (.lst ((R4.take n).map V.str)));generalize upd (upd H l0 (.lst (R4.map V.str))) l (.lst ((R4.take n).map V.str))=H1 at s1 el⊢;have ae:↑(R4.take n)=n:=by rw[vw];show min n 4=n;omega
 have af:∀z∈R4.take n,z∈R4:=λz hz=>vY hz;generalize R4.take n=zs at el ae af⊢;clear m1 hn s0 e0 hl ao;exists 8,N2,q2;erw[qan (aB.mono s1.tk),ts,vs,aC,e1,e2,e3,e4];have aQ:↑vs=↑ps:=by
  have:=Ab VC e3
  rwa[u9,u9] at this
 have aR:=ad.few
 exists 0,L,vs,1,⟨ts,by rw[s1 _ _ hL,aC],e1,e2⟩,(by rw[e3];exact ad.ok.1.2),(),λd hd=>q2 _ _ ?_
 have s2:=s1.trans (qi hd (.dK (iy vs)));have ap:Yr (upd H1 d (.dK (iy vs))) d ps:=⟨vs,qk,e3,e4.mono (qi hd _).tk⟩;have ag:=qi hd (.dK (iy vs)) _ _ el;have aq:H d=none:=s1.free hd;generalize upd H1 d (.dK (iy vs))=H2 at s2 ap ag⊢;exists 8,N3,q3
 exists 0,l,0,.inl (SqL.of ag),n,by rw[u9,ae],(),()
 let J_:Nat->L2.St->Hp->Prop:=λi σ H'=>∃(ps':om (Str×D)) (u4 u5 u6:oq V),σ= [u_ (.ref q),u_ (.ref L),u_ (.ref l),u_ (.ref d),u4,u5,u6]/\ie H H'/\H' l=u_ (.lst (zs.map V.str))/\Yr H' d ps'/\IE ps'
 refine zl (n:=n) J_ ⟨ps,U_,U_,U_,1,s2,ag,ap,ad⟩ ?_ ?_
 ·rintro i σ H3 hi ⟨ah,u4,u5,u6,rfl,s3,O,ak,U⟩;show mX _ _ _ _ H3;have au:i<↑zs:=by omega
  have aS:(↑(zs.map V.str):Int)=(n:Int):=by rw[u9,ae]
  have ac:0<(↑(zs.map V.str):Int):=by omega
  have aD:atI (zs.map V.str) (0+(i:Int))=u_ (V.str zs[i]):=by
   rw[show(0:Int)+(i:Int)=((i:Nat):Int) by omega]
   exact Qn (by rw[uD,uf au];rfl)
  have hz:=af _ (uW au);exists 8,B1,b1
  exists 0,0,_,0,1,0,l,0,.inl (SqL.of O),_,0,1,ac;erw[YB (xs:=zs.map V.str) (i:=(0+(i:Int)+1)%(↑(zs.map V.str):Int)) (vF _ ()) (vq _ ac),x1,aw]
  erw[Ag.mp (jM aw),to,aE,rfl]
  exists l,_,_,0,1,SqL.of O,aw,b1 _ _ ?_;have ax:=af to aE;erw[OG to ax,t1,t2,t3];exists 8,B2,b2
  exists 0,_,0,1,mt (by show 7+↑to<=_;omega),sml rfl,λl6 aF=>b2 _ _ ?_
  have s4:=qi aF (.lst ((ln1 to Vh).map V.str));have e6:(upd H3 l6 (.lst ((ln1 to Vh).map V.str))) l6=u_ (.lst ((ln1 to Vh).map V.str)):=qk;show cl _ _ _ _ _ (upd H3 l6 (.lst ((ln1 to Vh).map V.str)));generalize upd H3 l6 (.lst ((ln1 to Vh).map V.str))=H4 at s4 e6⊢;exists 8,B3,b3;have al:∀(l7:o6) (b:Bool) (H5:Hp),ie H3 H5->H5 l7=u_ (.lst ((ln1 to b).map V.str))->B3 [u_ (.ref q),u_ (.ref L),u_ (.ref l),u_ (.ref d),u_ (.int (0+(i:Int))),u_ (.str to),u_ (.ref l7)] H5:=by
   intro l7 b H5 s5 e7;refine b3 _ _ ?_;erw[Aa2 ax b,aT,am];exists 8,B4,b4;have Z:∀(l8:o6) (ls:om Str) (H6:Hp),ie H3 H6->H6 l8=u_ (.lst (ls.map V.str))->↑ls<=14->(∀y∈ls,Wd 20 y)->B4 [u_ (.ref q),u_ (.ref L),u_ (.ref l),u_ (.ref d),u_ (.int (0+(i:Int))),u_ (.str to),u_ (.ref l8)] H6:=by
    intro l8 ls H6 s6 e8 aG ay;refine b4 _ _ ?_
    exists 0,l8,0,.inl [SqL.of e8:λt ht=>?_];have m7:=qi ht (.tup (ls.map V.str));have i6:=xQ ay ht;have h7:=AI (k:="rule") (.inr rfl) (wx aG ay)
    exists sml rfl,λt2 aA=>?_;have s7:=qi aA (.tup [.str "rule",.ref t]);have i7:Is (upd (upd H6 t (.tup (ls.map V.str))) t2 (.tup [.str "rule",.ref t])) (.tup [.str "rule",.tup (ls.map D.str)]) (.ref t2):=Is.new (ds:= [.str "rule",.tup (ls.map D.str)]) ⟨_,0,[1:Q6 ()],_,0,i6,1⟩ aA
    generalize upd (upd H6 t (.tup (ls.map V.str))) t2 (.tup [.str "rule",.ref t])=H7 at s7 i7⊢;have aa:=(s6.trans m7).trans s7;erw[ak.same aa,aH,f1,f2,f3];have aU:↑(iy aH)=↑ah:=by
     have:=Ab VC f2;unfold iy
     simpa using this
    have aN:=U.few
    exists 0,0,0,l,_,_,0,1,SqL.of (aa _ _ O),aD,d,0,BZ.k (k:=Vj zs[i]) f1 ()
    rw[KF];erw[K0 (z:=zs[i]) i7 f2 f3,g1,g2];have aI:l≠d:=λz=>by have:=aa _ _ O;rw[z,f1] at this;cases this
    exact⟨_,_,_,0,λb ob e=>by rw[qm (qo e aq)];exact aa _ _ (s3 _ _ e),by rw[qm aI];exact aa _ _ O,Yr.up f1 g1 g2,U.put hz h7⟩
   have aJ:=s3.trans s5
   exists 0,q,ns,(2),1,(),qam hq aJ,λc5=>?_
   exists _,0,1,[():()],_,0,1,(by show(0:Int)<3;decide),1,0,li (λ_=>?_) (λ_=>Z l7 _ H5 s5 e7 () am)
   exists 0,1,0,li (λ_=>?_) (λ_=>Z l7 _ H5 s5 e7 () am)
   exists sml rfl,λl9 aK=>?_;have m9:=qi aK (.lst ([V.str "text b a",V.str "has c b"]))
   exists 0,l9,l7,_,0,1,qk,m9 _ _ e7,(by rw[u9];show 2+_<=_;omega),λt8 aL=>?_
   refine Z t8 ((["text b a","has c b"]:om Str)++ln1 to b) _ ((s5.trans m9).trans (qi aL _)) qk (by rw[uq];show 2+_<=_;omega) λy hy=>?_
   rcases Af.mp hy with hy|hy
   ·simp![uC,uA,uP] at hy;rcases hy with rfl|rfl<;>exact[():()]
   ·exact am y hy
  exists 0,q,ns,(2),1,(),qam hq (s3.trans s4),λc4=>?_
  exists _,0,1,[():()],_,0,1,(by show(0:Int)<3;decide),1,0,li (λ_=>?_) (λ_=>al l6 Vh H4 s4 e6)
  exists 0,0,l,0,.inl (SqL.of (s4 _ _ O)),_,0,1,1,0,li (λ_=>?_) (λ_=>al l6 Vh H4 s4 e6)
  exists 0,_,0,1,mt (by show 7+↑to<=_;omega),sml rfl,λl7 aM=>?_
  exact al l7 v_ _ (s4.trans (qi aM _)) qk
 ·rintro σ H3 ⟨ah,u4,u5,u6,rfl,s3,O,ak,U⟩;exact q3 _ _ [0:k d ah H3 s3 aq ak U]
end
nonrec def rK (k:Nat):Str:="r."++Adw (0+(k:Int))
nonrec def lnR (k:Nat):om Str:= ["text a "++rK ((k+1)%60),"ask b a","say b"]
nonrec def AO (k:Nat):D:= .tup [.str "rule",.tup ((lnR k).map D.str)]
nonrec def lfE:D:= .tup [.str "leaf",.str "end"]
nonrec def R60:om Str:=(Vn 60).map rK
def nZ:∀k:Nat,k<60->nm (rK k)=v_/\↑(rK k)<=4:=by decide+kernel
def Dr:R60.Nodup:=by decide+kernel
nonrec def ckA (k:Nat):Bool:=match g0D (rK k) (AO k) with
 |some g=>g.en.isNone&&decide (Q5 g=u_ (rK ((k+1)%60)))&&match(QT g (.str "end")).en with
  |some (.tup [.str x,.str y])=>decide (x="said")&&decide (y="end")
  |_=>Vh
 |none=>Vh
def AbA:∀k:Nat,k<60->ckA k=true:=by decide+kernel
def gR {k:Nat}(hk:k<60):∃g,g0D (rK k) (AO k)=u_ g/\g.en=U_/\Q5 g=u_ (rK ((k+1)%60))/\(QT g (.str "end")).en=u_ (.tup [.str "said",.str "end"]):=by
 have c:=AbA k hk;unfold ckA at c;cases U:g0D (rK k) (AO k) with
 |none=>rw[U] at c;cases c
 |some g=>
  rw[U] at c
  try dsimp only at c
  rw[uu,uu] at c;erw[c,[c1,c2],O];exists g,1,Option.isNone_iff_eq_none.mp c1,um c2;cases Z:(QT g (.str "end")).en with
  |none=>rw[Z] at O;cases O
  |some d=>
   rw[Z] at O
   match d,O with
   | .tup [.str x,.str y],O=>
    have O:(decide (x="said")&&decide (y="end"))=true:=O;rw[uu] at O;rw[um O.1,um O.2]
section
variable {qs:om (Str×D)}{f:Sy.Orc}{g:Gp}{m:Str}
def MZ (O:g.en=U_)(U:Q5 g=u_ m)(Z:f m=U_)(j:Nat):Sy.it (SyP qs) f (j+1) g=m8 g m:=by
 have e:Sy.step (SyP qs) f g=m8 g m:=by
  show(if g.en.isSome=v_ then g else match Q5 g with
   |none=>m6 qs g
   |some z=>match f z with
    |some y=>QT g (y.getD .non)
    |none=>m8 g z)=m8 g m
  rw[A4 (show¬g.en.isSome=v_ by rw[O];exact ua),U]
  try dsimp only
  rw[Z]
 show Sy.it (SyP qs) f j (Sy.step (SyP qs) f g)=_;rw[e];exact Sy.xB (Y:=SyP qs) rfl j
def Abf {x:oq D}(O:g.en=U_)(U:Q5 g=u_ m)(Z:f m=u_ x)(hx:(QT g (x.getD .non)).en.isSome=v_)(j:Nat):Sy.it (SyP qs) f (j+1) g=QT g (x.getD .non):=by
 have e:Sy.step (SyP qs) f g=QT g (x.getD .non):=by
  show(if g.en.isSome=v_ then g else match Q5 g with
   |none=>m6 qs g
   |some z=>match f z with
    |some y=>QT g (y.getD .non)
    |none=>m8 g z)=QT g (x.getD .non)
  rw[A4 (show¬g.en.isSome=v_ by rw[O];exact ua),U]
  try dsimp only
  rw[Z]
 show Sy.it (SyP qs) f j (Sy.step (SyP qs) f g)=_;rw[e];exact Sy.xB (Y:=SyP qs) hx j
end
section
variable {qs:om (Str×D)}
def FhN (hd:∀k,k<60->qG qs (rK k)=AO k):∀(h k:Nat),k<60->Sy.Fh (SyP qs) h (rK k)=U_
 |0,k,hk=>by
  erw[gR hk,g,h1,_];exact Sy.zD (Y:=SyP qs) (g:=g) (show g0D (rK k) (qG qs (rK k))=u_ g by rwa[hd k hk])
 |h+1,k,hk=>by
  erw[gR hk,g,h1,h2,h3,_];rw[Sy.ww (Y:=SyP qs) (g:=g) (show g0D (rK k) (qG qs (rK k))=u_ g by rwa[hd k hk]) h]
  have e:Sy.it (SyP qs) (Sy.Fh (SyP qs) h) (301+1) g=m8 g (rK ((k+1)%60)):=MZ h2 h3 (FhN hd h _ (Vd _ ())) 301
  rw[show(SyP qs).M=301+1 from rfl,e]
  show(Yl (m8 g (rK ((k+1)%60)))).map u_=U_;unfold Yl m8;show((u_ (D.tup [.str "stuck",.str (rK ((k+1)%60))])).bind xq).map u_=U_;show(if("stuck":Str)="said" then u_ (D.str (rK ((k+1)%60))) else U_).map u_=U_
  rw[A4 ()]
  rfl
def SE (hd:∀k,k<60->qG qs (rK k)=AO k)(k:Nat)(O:k<60):ni (iL qs (rK k))=u_ (rK ((k+1)%60)):=by
 erw[gR O,g,h1,h2,h3,_];have U:g0D (rK k) (qG qs (rK k))=u_ g:=by rwa[hd k O]
 have Z:FP qs (rK ((k+1)%60))=none:=by
  cases c:FP qs (rK ((k+1)%60)) with
  |none=>rfl
  |some x=>
   erw[(Sy.F_iff (Qg qs)).mp c,h,e];rw[FhN hd h _ (Vd _ ())] at e
   cases e
 have e:itP qs (301+1) g=m8 g (rK ((k+1)%60)):=MZ h2 h3 Z 301;rw[Z3 U (show(itP qs 302 g).en=u_ (.tup [.str "stuck",.str (rK ((k+1)%60))]) by rw[show 302=301+1 from rfl,e];rfl)]
 have e2:Qp (.tup [.str "stuck",.str (rK ((k+1)%60))])= .tup [.str "stuck",.str (rK ((k+1)%60))]:=by unfold Qp;dsimp only;exact A4 ()
 rw[e2];show(if("stuck":Str)="stuck" then u_ (rK ((k+1)%60)) else U_)=_
 exact A6 rfl
def FE (hd:∀k,k<59->qG qs (rK k)=AO k)(U:qG qs (rK 59)=lfE):∀(j k:Nat),j+k=59->FP qs (rK k)=u_ (u_ (.str "end"))/\vlO (iL qs (rK k))=v_
 |0,k,h=>by
  have Z:k=59:=by omega
  subst Z;have O:g0D (rK 59) (qG qs (rK 59))=none:=by rw[U];exact wX.mpr rfl
  exists ?_,?_
  ·rw[show FP qs (rK 59)=_ from Sy.zi (Qg qs) O]
   show u_ (WZ (qG qs (rK 59)))=_;rw[U]
   rfl
  ·unfold iL;rw[O]
   try dsimp only
   rw[U]
   decide+kernel
 |j+1,k,h=>by
  have Z:k<59:=by omega
  erw[gR (k:=k) (),g,h1,h2,h3,h4]
  have O:g0D (rK k) (qG qs (rK k))=u_ g:=by rwa[hd k Z]
  rw[Fk ()] at h3
  have e:itP qs (301+1) g=QT g (.str "end"):=Abf h2 h3 (FE hd U j (k+1) ()).1 (by show(QT g (.str "end")).en.isSome=v_;rw[h4];rfl) 301
  have e':(itP qs 302 g).en=u_ (.tup [.str "said",.str "end"]):=by rw[show 302=301+1 from rfl,e,h4]
  exists ?_,?_
  ·rw[show FP qs (rK k)=_ from Sy.F_run (Qg qs) O]
   show(Yl (itP qs 302 g)).map u_=_;unfold Yl;rw[e']
   rfl
  ·rw[Z3 O e']
   decide+kernel
def pth (h:∀k,k<60->ni (iL qs (rK k))=u_ (rK ((k+1)%60))):∀m i:Nat,nu (iL qs) (rK (i%60)) ((gW (i+1) m).map λj=>rK (j%60)) (rK ((i+m+1)%60))
 |0,i=>by
  show ni (iL qs (rK (i%60)))=u_ (rK ((i+0+1)%60));rw[h _ (Vd _ ()),rZ]
 |m+1,i=>by
  rw[Fu,ur];exists ?_,?_
  ·rw[h _ (Vd _ ()),rZ]
  ·have:=pth h m (i+1);rw[show i+1+m+1=i+(m+1)+1 by omega] at this
   exact this
nonrec def trn (k:Nat):om Str:=R60.drop k++R60.take k
def S4:∀k:Nat,k<60->trn k=rK (k%60)::(gW (k+1) 59).map λj=>rK (j%60):=by decide+kernel
def S3 {k:Nat}(h:z∈trn k):↑z<=4:=by
 have:z∈R60:=by
  rcases Af.mp h with h|h
  ·exact vX h
  ·exact vY h
 erw[Ag.mp this,j,O,rfl];exact(nZ j (List.mem_range.mp O)).2
def Sw (hd:∀k,k<60->qG qs (rK k)=AO k){k:Nat}(U:k<60):chD qs (rK k)= .tup [.tup ((trn k).map D.str),.tup ((trn k).map D.str)]:=by
 have Z:=pth (SE hd) 59 k;rw[show(k+59+1)%60=k%60 by omega] at Z
 have hn:(trn k).Nodup:=by
  have h1:(trn k).Perm (R60.take k++R60.drop k):=vR;rw[tG] at h1;exact h1.nodup_iff.mpr Dr
 have e:=S4 k U;rw[e] at hn⊢;have O:↑(rK (k%60)::(gW (k+1) 59).map λj=>rK (j%60))<=60:=by simp
 have:=AX hn O Z
 rwa[Fk U] at this⊢
def AbB (hd:∀k,k<59->qG qs (rK k)=AO k)(O:qG qs (rK 59)=lfE){k:Nat}(U:k<60):chD qs (rK k)= .tup [.tup [],.tup []]:=by
 unfold chD;rw[(FE hd O (59-k) k ()).2]
 exact A6 rfl
end
nonrec def rp (k:Nat):Str×D:=(rK k,AO k)
nonrec def P0:om (Str×D):=(Vn 59).map rp++ [rp 59]
nonrec def P1:om (Str×D):=(Vn 59).map rp++ [(rK 59,lfE)]
def AcG:P0=(Vn 60).map rp:=by
 unfold P0;rw[show 60=59+1 from rfl,Uf,uh]
 rfl
def MV (k:Nat):∀y∈lnR k,Wd 20 y:=by
 erw[nZ ((k+1)%60) (Vd _ ()),h1,h2]
 have ta:Wd 7 "text a ":=[():ug _]
 have U:Wd 4 (rK ((k+1)%60)):=[kK h1:h2];intro y O;have O:y∈ ["text a "++rK ((k+1)%60),"ask b a","say b"]:=O;simp![uC,uA,uP] at O;rcases O with rfl|rfl|rfl
 ·exact ta.cat U ()
 ·exact[():()]
 ·exact[():()]
def CZ (k:Nat):xn (AO k):=AI (.inr rfl) (wx (by show 3<=14;decide) (MV k))
def Aa3:xn lfE:=AI (.inl rfl) (Mq [():()])
def AcR (d:D):((Vn 59).map rp++ [(rK 59,d)]).map (·.1)=R60:=by
 rw[uh,uN];show _=(Vn (59+1)).map rK;rw[Uf,uh]
 rfl
def AaA {d:D}(hd:xn d):Nr ((Vn 59).map rp++ [(rK 59,d)]):=by
 exists [λz O=>?_:?_],λp U=>?_
 ·rw[AcR] at O;erw[Ag.mp O,j,Z,rfl];exact(nZ j (List.mem_range.mp Z)).1
 ·rw[AcR];exact Dr
 ·rcases Af.mp U with h|h
  ·erw[Ag.mp h,j,_,rfl];exact CZ j
  ·cases Ae.mp h;exact hd
def MG {d:D}(O:qs.Perm ((Vn 59).map rp++ [(rK 59,d)])):(∀k,k<59->qG qs (rK k)=AO k)/\qG qs (rK 59)=d:=by
 have hn:(((Vn 59).map rp++ [(rK 59,d)]).map (·.1)).Nodup:=by rw[AcR];exact Dr
 have U:(qs.map (·.1)).Nodup:=(O.map _).nodup_iff.mpr hn;exact[λk Z=>sw U (O.mem_iff.mpr (vn _ (Ag.mpr [k:List.mem_range.mpr Z:1]))):sw U (O.mem_iff.mpr (uM _ (Ae.mpr rfl)))]
nonrec def Ab4 (b:Bool)(k:Nat):om D:=if b=v_ then [.tup [],.tup []] else [.tup ((trn k).map D.str),.tup ((trn k).map D.str)]
nonrec def Adr (b:Bool)(ps:om (Str×D)):Prop:=∀qs,qs.Perm ps->∀k,k<60->chD qs (rK k)= .tup (Ab4 b k)
def Ac7:Adr Vh P0:=λqs O k U=>by
 erw[MG (d:=AO 59) O,h1,h2];exact Sw (λj Z=>by
  by_cases c:j<59
  ·exact h1 j c
  ·have:j=59:=by omega
   subst this;exact h2) U
def Ac6:Adr v_ P1:=λqs O k U=>by
 erw[MG (d:=lfE) O,h1,h2];exact AbB h1 h2 U
def qap:∀zs:om Str,nL (zs.map D.str)=v_/\dpL (zs.map D.str)<=1
 | []=>⟨1,by simp[dpL]⟩
 |z::r=>by
  erw[qap r,h1,h2];exact⟨by simp![ur,nL,nD,h1,Vb],by simp![ur,dpL,dp];omega⟩
def Ef (l m:om Str):nL [.tup (l.map D.str),.tup (m.map D.str)]=v_/\dpL [.tup (l.map D.str),.tup (m.map D.str)]<=60:=by
 erw[qap l,h1,h2];erw[qap m,h3,h4];exact⟨by simp![nL,nD,h1,h3,Vb],by simp![dpL,dp];omega⟩
def Ac4 (b:Bool)(k:Nat):nL (Ab4 b k)=v_/\dpL (Ab4 b k)<=60:=by
 cases b with
 |true=>exact Ef [] []
 |false=>exact Ef (trn k) (trn k)
inductive Ol:Sp
 |mk (c:Int)(_:vs= [.int c])(_:∀H',ie H H'->Q (.bl v_) H')
section
variable {P:og}{w:oh}{K:o0}{mg:Str->oq o7}{base:o9}{a:Ad}{g:Ga}
def Pr:#[C,17,a.Jc,a.j8,["cell"],Ol]:=by
 have jm:=#[D3,T];have xl:=#[Bl,T,C];exists 9,T.lJ,Qf
 erw[h,c,rfl,k];have hs:=uw;exists 3,%[#[Z7,2,["k"],(1),[],(1),12,Qf.nd,rfl,G9 rfl,PU,rfl,#[yN,#v[ql]],(λ_ _ _ _ _ _=>#[qU,(0),(show Vy (["k"]:om Str) by decide+kernel)]),(λ_ _ _ _ _ _=> @yp _),(λ_ _ _ _ _ _=>#[qS,Qb,qp,#[qR,Yi,T.XL,UL,#v[pv 0]]]),_,_,_],#[qD,(2),Qf.nd,#[QA,qh]],#[Yh,#[yN,#v[ql]],#[qU,(3),Qf.nd],%[|#[Qd,#[Y4,uJ,vh,vi,yF,pv 2,#v[#[qB,#v[#[qJ,QN,pv 1,pv 3],#[qB,#v[qp,#[qB,#v[#[qS,Qb,qp,#[qJ,QN,pv 1,#[qS,yS,#[qS,yf,pv 3,ql],ql]]],qp,qp]]]]]]]]]]],#[qK,#[qt,Qk,#[qS,yS,pv 0,ql],ql],%[|#[Be,6,#[qB,#v[#[qJ,QN,pv 1,ql],#[qB,#v[qp,qp]]]],#[MI,7,pv 2,ql,AQ,_],_,_,_]],qx],#[qD,(4),Qf.nd,#[Za,T.M_Project,jm,hr.mono (),T.m_Project,T.kw,qH,#v[#[qR,qP,T.Qr,vc,#v[pv 2]]]]],#[Yh,#[Zd,#[QA,#v[ql,#[qS,yS,#[qS,zy,pv 0,ql],ql]]]],#[qU,(5),Qf.nd],%[#[qD,(6),Qf.nd,#[qR,qP,T.Qr,vc,#v[#[qS,WO,#[Yc,xT,pv 1,#[YT,pv 5],jl],#[Yc,xT,pv 1,jl,#[YT,pv 5]]]]]],#[qD,(7),Qf.nd,#[qJ,QN,#[QA,#v[#[qB,#v[pv 6,pv 6]],#[qB,#v[#[qB,qh],#[qB,qh]]]]],#[qS,yS,pv 0,ql]]]|#[qK,#[qt,#[DF,1,hr.units],#[qy,xl,T.lT,#v[pv 4,#[qJ,QN,pv 1,pv 5]]],pv 7],%[|#[qv,ju]],qx]]]|#[qv,ju]]
 exists 8,N1,q1
 exists (60),1,(),(),λl hl=>?_
 refine jP (lo:=0) (n:=60) (tl:= []) (λi ys H'=>ys=((Vn i).map rK).map V.str/\ie H H') (Q6 ()) [1:qi hl _] ?_ ?_
 ·rintro i ys H' hi ⟨rfl,s1⟩ aI hy R hR;have hn:=nZ i hi;have aJ:(0+(i:Int)).natAbs.log2<1920:=vV (UR _) ()
  exists 0,0,aJ,_,0,1,?_,?_
  ·have:=hn.2;rw[<-Kz];exact mt (uL this ())
  ·refine hR _ H' aI ⟨?_,λb o e=>by rw[qm (qo e hl)];exact s1 b o e⟩
   rw[Uf,uh,uh]
   rfl
 rintro ys H1 ⟨rfl,s1⟩ am;refine q1 _ _ ?_;have am:H1 l=u_ (.lst (R60.map V.str)):=am;have au:↑(R60.map V.str)=60:=by decide+kernel
 have aa:∀j:Nat,j<60->atI (R60.map V.str) (j:Int)=u_ (V.str (rK j)):=λj hj=>Qn (by
  rw[uD,show R60[j]? =u_ (rK j) by unfold R60;rw[uD,List.getElem?_range hj];rfl]
  rfl)
 exists 8,N2,q2
 exists uG _,λL hL=>q2 _ _ ?_;have s2:=s1.trans (qi hL (.lst ([]:om V)));have aw:H L=none:=s1.free hL;have ax:l≠L:=qo am hL;have ay:=qi hL (.lst ([]:om V)) _ _ am;have eL:(upd H1 L (.lst [])) L=u_ (.lst []):=qk;generalize upd H1 L (.lst [])=H2 at s2 ay eL⊢;exists 8,N3,q3
 exists (60),1,(),()
 let J_:Nat->L2.St->Hp->Prop:=λi σ H'=>∃(us:om V) (u3:oq V),σ= [u_ (.int c),u_ (.ref l),u_ (.ref L),u3,U_,U_,U_,U_]/\ie H H'/\H' l=u_ (.lst (R60.map V.str))/\H' L=u_ (.lst us)/\L2.IsL H' (((Vn i).map rp).map prD) us/\↑us=i
 refine zl (n:=60) J_ ⟨[],U_,1,s2,ay,eL,1,1⟩ ?_ ?_
 ·rintro i σ H3 hi ⟨us,u3,rfl,s3,Z,ac,ae,af⟩;have h1:=aa i hi;have h2:=aa ((i+1)%60) (Vd _ ())
  have e1:(0+(i:Int))=(i:Int):=by omega
  have e2:(0+(i:Int)+1)%60=(((i+1)%60:Nat):Int):=by omega
  have aZ:=(nZ i hi).2;have a6:=(nZ ((i+1)%60) (Vd _ ())).2
  exists 0,.inl [1:_:SqL.of ac],0,0,l,_,_,0,1,SqL.of Z,(by rwa[e1])
  exists 0,0,_,0,1,_,0,1,(by show(0:Int)<60;decide),l,_,_,0,1,SqL.of Z,(by rwa[e2])
  exists _,0,1,mt (by show 7+↑(rK ((i+1)%60))<=_;omega),sml rfl,λt1 ag=>?_
  have i1:=xQ (MV i) ag;have m1:=qi ag (.tup ((lnR i).map V.str))
  exists sml rfl,λt2 ah=>[sml rfl:λt3 aA=>?_];have m2:ie (upd H3 t1 (.tup ((lnR i).map V.str))) (upd (upd H3 t1 (.tup ((lnR i).map V.str))) t2 (.tup [.str "rule",.ref t1])):=qi ah _;have i2:Is (upd (upd H3 t1 (.tup ((lnR i).map V.str))) t2 (.tup [.str "rule",.ref t1])) (AO i) (.ref t2):=Is.new (ds:= [.str "rule",.tup ((lnR i).map D.str)]) ⟨_,0,[1:Q6 ()],_,0,i1,1⟩ ah
  have m3:ie (upd (upd H3 t1 (.tup ((lnR i).map V.str))) t2 (.tup [.str "rule",.ref t1])) (upd (upd (upd H3 t1 (.tup ((lnR i).map V.str))) t2 (.tup [.str "rule",.ref t1])) t3 (.tup [.str (rK i),.ref t2])):=qi aA _;have i3:Is (upd (upd (upd H3 t1 (.tup ((lnR i).map V.str))) t2 (.tup [.str "rule",.ref t1])) t3 (.tup [.str (rK i),.ref t2])) (prD (rp i)) (.ref t3):=Is.new (ds:= [.str (rK i),AO i]) ⟨_,0,[1:mt ()],_,0,i2,1⟩ aA
  show qah _ _ (upd (upd (upd H3 t1 (.tup ((lnR i).map V.str))) t2 (.tup [.str "rule",.ref t1])) t3 (.tup [.str (rK i),.ref t2])) _;have ak:=(m1.trans m2).trans m3;generalize upd (upd (upd H3 t1 (.tup ((lnR i).map V.str))) t2 (.tup [.str "rule",.ref t1])) t3 (.tup [.str (rK i),.ref t2])=H4 at ak i3⊢;have ad:=ak _ _ ac
  exists L,us,0,1,ad,()
  have tk:Tk H4 (upd H4 L (.lst (us++ [.ref t3]))):=Tk.updL ad
  exists us++ [.ref t3],0,λb o e=>?_,?_,qk,?_,?_
  ·rw[qm (qo e aw)];exact ak _ _ (s3 _ _ e)
  ·rw[qm ax];exact ak _ _ Z
  ·rw[Uf,uh,uh];exact((ae.mono ak.tk).mono tk).append (L2.IsL.one (i3.mono tk))
  ·rw[uq,af]
   rfl
 rintro σ H3 ⟨us,u3,rfl,s3,Z,ac,ae,af⟩;refine q3 _ _ ?_;exists 8,N4,q4;have m2:0<=c%2/\c%2<2:=[vF _ ():vq _ ()]
 have aB:∀(b:Bool) (ps:om (Str×D)) (us:om V) (H4:Hp),c%2=(if b=v_ then 1 else 0)->Adr b ps->Nr ps->↑ps<=60->ie H H4->H4 l=u_ (.lst (R60.map V.str))->H4 L=u_ (.lst us)->L2.IsL H4 (ps.map prD) us->N4 [u_ (.int c),u_ (.ref l),u_ (.ref L),u3,U_,U_,U_,U_] H4:=by
  intro b ps us H4 hb aK hok aL s4 aM ad U;refine q4 _ _ ?_;exists 8,N5,q5
  exists 0,L,us,1,.inl [SqL.of ad:λt ht=>?_];have m1:=qi ht (.tup us);intro x dx nx aN a7;have aC:ie (upd H4 t (.tup us)) (upd (upd (upd H4 t (.tup us)) dx (.own x)) x (.ins a.qQ dx [])):=λb ob e=>by
   rwa[qm (qo e nx),qm (qo e aN)]
  have O:=m1.trans aC
  exists x,dx,t,ps,us,1,qk,aC _ _ qk,U.mono O.tk,hok,aL,λqs H5 keep hP hT ao=>[1:q5 _ _ ?_];have s5:ie H4 H5:=λb ob e=>keep b ob (O _ _ e) (qo (m1 _ _ e) nx);exists 8,N6,q6;have aO:0<=c/2%60/\c/2%60<60:=[vF _ ():vq _ ()]
  exists 0,_,0,1,[():()],_,0,1,(by show(0:Int)<60;decide),sml rfl,λl5 h5=>?_
  have s6:=qi h5 (.lst [V.int 0,V.int (c/2%60)])
  exists l5,1,[_:SqL.of qk];have e6:(upd H5 l5 (.lst [V.int 0,V.int (c/2%60)])) l5=u_ (.lst [V.int 0,V.int (c/2%60)]):=qk;generalize upd H5 l5 (.lst [V.int 0,V.int (c/2%60)])=H6 at s6 e6⊢;have aD:=s5.trans s6;have aP:=aD _ _ aM;have aQ:=hP.same s6
  let J6_:Nat->L2.St->Hp->Prop:=λi σ H'=>(∃u5 u6 u7,σ= [u_ (.int c),u_ (.ref l),u_ (.ref L),u3,u_ (.ref x),u5,u6,u7])/\ie H6 H'
  refine XS (xs:= [V.int 0,V.int (c/2%60)]) J6_ [[_:_:0]:ie.refl _] (λi σ H' _ h=>SqL.of (h.2 _ _ e6)) ?_ ?_
  ·rintro i y σ H7 hy ⟨⟨u5,u6,u7,rfl⟩,s7⟩;obtain⟨j,hj,rfl⟩:∃j:Nat,j<60/\y=V.int (j:Int):=by
    have:=uK hy;simp![uC,uA,uP] at this;rcases this with rfl|rfl
    ·exact[(0):():1]
    ·exact⟨(c/2%60).toNat,(),by rw[Int.toNat_of_nonneg aO.1]⟩
   have ap:=s7 _ _ aP;show mX _ _ _ _ H7;exists 8,B1,b1
   exists 0,0,0,l,0,SqL.of ap,λt4 h4=>?_;rw[JU (by rw[au];omega),<-Ht]
   have n4:=qi h4 (.lst ((R60.drop j).map V.str));have aR:=n4 _ _ ap
   exists 0,0,0,l,0,SqL.of aR,λt5 aS=>?_;rw[Z2,<-HF];have n5:=qi aS (.lst ((R60.take j).map V.str))
   exists t4,t5,_,0,1,n5 _ _ qk,qk,?_,λt6 h6=>?_
   ·rw[u9,u9,vG,vw];show 60-j+min j 60<=Vl;omega
   have n6:=qi h6 (.lst ((R60.drop j).map V.str++(R60.take j).map V.str))
   exists t6,0,.inl [SqL.of qk:λt7 h7=>b1 _ _ ?_];have n7:=qi h7 (.tup ((R60.drop j).map V.str++(R60.take j).map V.str));have i7:Is (upd (upd (upd (upd H7 t4 (.lst ((R60.drop j).map V.str))) t5 (.lst ((R60.take j).map V.str))) t6 (.lst ((R60.drop j).map V.str++(R60.take j).map V.str))) t7 (.tup ((R60.drop j).map V.str++(R60.take j).map V.str))) (.tup ((trn j).map D.str)) (.ref t7):=by
    exists t7,0,qk;rw[<-uh];exact Yg λz hz=>by have:=S3 (k:=j) hz;omega
   have s8:=((n4.trans n5).trans n6).trans n7;generalize upd (upd (upd (upd H7 t4 (.lst ((R60.drop j).map V.str))) t5 (.lst ((R60.take j).map V.str))) t6 (.lst ((R60.drop j).map V.str++(R60.take j).map V.str))) t7 (.tup ((R60.drop j).map V.str++(R60.take j).map V.str))=H8 at i7 s8⊢;exists 8,B2,b2
   exists 0,0,sml rfl,λa1 g1=>[uG _:λa2 g2=>[uG _:λa3 g3=>[sml rfl:λa4 g4=>[sml rfl:λa5 g5=>?_]]]];have o1:=qi g1 (.tup [V.ref t7,V.ref t7]);have o2:=qi g2 (.tup ([]:om V));have o3:=qi g3 (.tup ([]:om V));have o4:=qi g4 (.tup [V.ref a2,V.ref a3]);have o5:=qi g5 (.lst [V.ref a1,V.ref a4]);have j1:Is _ (.tup [.tup ((trn j).map D.str),.tup ((trn j).map D.str)]) (.ref a1):=Is.new (ds:= [.tup ((trn j).map D.str),.tup ((trn j).map D.str)]) ⟨_,0,i7,_,0,i7,1⟩ g1;have j4:Is _ (.tup [.tup [],.tup []]) (.ref a4):=Is.new (ds:= [.tup [],.tup []]) ⟨_,0,(Is.new (ds:= []) rfl g2).mono o3.tk,_,0,Is.new (ds:= []) rfl g3,1⟩ g4;have aE:=j1.mono (((o2.trans o3).trans o4).trans o5).tk;have aF:=j4.mono o5.tk;have s9:=(((o1.trans o2).trans o3).trans o4).trans o5;have e5:(upd (upd (upd (upd (upd H8 a1 (.tup [V.ref t7,V.ref t7])) a2 (.tup [])) a3 (.tup [])) a4 (.tup [V.ref a2,V.ref a3])) a5 (.lst [V.ref a1,V.ref a4])) a5=u_ (.lst [V.ref a1,V.ref a4]):=qk;generalize upd (upd (upd (upd (upd H8 a1 (.tup [V.ref t7,V.ref t7])) a2 (.tup [])) a3 (.tup [])) a4 (.tup [V.ref a2,V.ref a3])) a5 (.lst [V.ref a1,V.ref a4])=H9 at aE aF s9 e5⊢;obtain⟨av,aT,aU⟩:∃av,atI [V.ref a1,V.ref a4] (c%2)=u_ av/\Is H9 (.tup (Ab4 b j)) av:=by
    cases b with
    |true=>exact⟨.ref a4,by rw[hb];rfl,aF⟩
    |false=>exact⟨.ref a1,by rw[hb];rfl,aE⟩
   exists 0,_,0,1,(by show(0:Int)<2;decide),a5,_,_,0,1,SqL.of e5,aT,b2 _ _ ?_
   have aq:=s8.trans s9;have aV:=aq _ _ ap;have aW:=(aQ.same s7).same aq
   exists 0,0,0,l,_,_,0,1,SqL.of aV,aa j hj,x,rK j,qs,1,(nZ j hj).1,aW,hT,λv a8 aG aH=>?_;rw[aK qs ao j hj] at aH;erw[Ac4 b j,k1,k2];exact⟨0,_,_,aH,aU.mono aG.tk,k1,k1,k2,0,iN (by rw[(eqNL_iff k1).mpr rfl];rfl) [[_:_:0]:(s7.trans aq).trans aG]⟩
  ·rintro σ H7 ⟨_,s7⟩;exact q6 _ _ (k H7 ((s4.trans aD).trans s7))
 exists 0,_,0,1,(by show(0:Int)<2;decide),1,0
 rw[<-AcG] at ae;by_cases c1:c%2=1
 ·refine lh (A9 (by rw[c1])) ?_
  exists 0,l,_,_,0,1,SqL.of Z,aa 59 ()
  exists sml rfl,λt1 ag=>[sml rfl:λt2 ah=>?_];have m1:=qi ag (.tup [.str "leaf",.str "end"]);have i1:Is (upd H3 t1 (.tup [.str "leaf",.str "end"])) lfE (.ref t1):=Is.new (ds:= [.str "leaf",.str "end"]) ⟨_,0,[1:Q6 ()],_,0,[1:Q6 ()],1⟩ ag
  have i2:Is (upd (upd H3 t1 (.tup [.str "leaf",.str "end"])) t2 (.tup [.str (rK 59),.ref t1])) (prD (rK 59,lfE)) (.ref t2):=Is.new (ds:= [.str (rK 59),lfE]) ⟨_,0,⟨1,mt (by have:=(nZ 59 ()).2;omega)⟩,_,0,i1,1⟩ ah
  have O:ie H3 (upd (upd H3 t1 (.tup [.str "leaf",.str "end"])) t2 (.tup [.str (rK 59),.ref t1])):=m1.trans (qi ah _)
  exists 0,L,us,(59),(59),1,1,O _ _ ac,(by rw[af];decide)
  generalize upd (upd H3 t1 (.tup [.str "leaf",.str "end"])) t2 (.tup [.str (rK 59),.ref t1])=H4 at O i2⊢;have ad:=O _ _ ac;have tk:Tk H4 (upd H4 L (.lst (us.set 59 (.ref t2)))):=Tk.updL ad;have U:=ae.mono O.tk;unfold P0 at U;rw[uh] at U;erw[L2.IsL.unsnoc (ds:=((Vn 59).map rp).map prD) (d:=prD (rp 59)) U,al,w2,rfl,aX,_];have aY:↑al=59:=by
   rw[uq] at af;have:↑al+1=60:=af;omega
  have es:(al++ [w2]).set 59 (V.ref t2)=al++ [.ref t2]:=by
   rw[List.set_append_right _ _ (),aY]
   rfl
  refine aB v_ P1 ((al++ [w2]).set 59 (.ref t2)) _ c1 Ac6 (AaA Aa3) () (λb o e=>?_) ?_ qk ?_
  ·rw[qm (qo e aw)];exact O _ _ (s3 _ _ e)
  ·rw[qm ax];exact O _ _ Z
  ·rw[es] at tk⊢;unfold P1;rw[uh];exact(aX.mono tk).append (L2.IsL.one (i2.mono tk))
 ·refine iN (ub (λz=>c1 (V.int.inj z))) ?_;exact aB Vh P0 us H3 (by show c%2=0;omega) Ac7 (AaA (CZ 59)) () s3 Z ac ae
def PY {d A:o6}{o:Obj}{H1:Hp}{te:TE}{tl:L2.St}{Q:VK}{kvs:om (Key×V)}{ls:om Str}(C:Nat->om V->Hp->Prop)(hd:H1 d=u_ (.frz o (.dK kvs)))(hk:kvs.map (·.1)=ls.map Vj)(hn:↑ls<=Vl)(h0:C 0 [] (upd H1 A (.lst [])))(hC:∀i ys H,C i ys H->ie H1 H)
  (U:∀i z ys H,ls[i]? =u_ z->C i ys H->H A=u_ (.lst ys)->∀R:VK,(∀y H4,H4 A=u_ (.lst ys)->C (i+1) (ys++ [y]) (upd H4 A (.lst (ys++ [y])))->R y H4)->te (u_ (.str z)::tl) H R)
  (hQ:∀ys H,C ↑ls ys H->H A=u_ (.lst ys)->Q (.ref A) H):Es A (Itd d o) (Y5 0) sO te (U_::tl) H1 Q:=by
 have aa:↑kvs=↑ls:=by
  have:=Ab VC hk
  simpa using this
 exists ↑ls,λi σ ys H=>(∃w,σ=w::tl)/\C i ys H,hn,[[U_:1]:h0],?_,?_
 ·rintro i σ ys H hi ⟨⟨w,rfl⟩,O⟩ Z hy;have sm:=hC _ _ _ O;exists [kvs:sm _ _ hd:()]
  rintro x H' ⟨rfl,hx⟩;have e:=hx kvs (sm _ _ hd);have e2:(kvs.map λp=>kV p.1)[i]? =u_ (V.str ls[i]):=by
   have:(kvs.map λp=>kV p.1)=(kvs.map (·.1)).map kV:=by rw[uN];rfl
   rw[this,hk,uN,uD,uf hi]
   rfl
  rw[e2] at e;cases e
  try dsimp![Y5,sO,GG]
  rw[A6 rfl];exact U i ls[i] ys H' (uf hi) O Z _ λy H4 h4 c4=>[h4:⟨0⟩:c4]
 ·rintro σ ys H ⟨_,O⟩ Z;exact[[kvs:hC _ _ _ O _ _ hd:()]:hQ ys H O Z]
mutual
theorem AcS {H H':Hp}(t:∀b xs,H b=u_ (.tup xs)->H' b=u_ (.tup xs)):∀{d:D}{v:V},lw d=v_->Is H d v->Is H' d v
 | .str _,_,_,h=>h
 | .tup xs,_,hl,h=>by
  erw[h,b,vs,e,O,U];exact⟨b,vs,e,t b vs O,isL_lw t (by simpa [lw] using hl) U⟩
 | .non,_,hl,_=>by simp[lw] at hl
 | .int _,_,hl,_=>by simp[lw] at hl
 | .bl _,_,hl,_=>by simp[lw] at hl
 | .lst,_,hl,_=>by simp[lw] at hl
 | .dct,_,hl,_=>by simp[lw] at hl
theorem isL_lw {H H':Hp}(t:∀b xs,H b=u_ (.tup xs)->H' b=u_ (.tup xs)):∀{ds:om D}{vs:om V},lwL ds=v_->L2.IsL H ds vs->L2.IsL H' ds vs
 | [],_,_,h=>h
 |x::r,_,hl,h=>by
  erw[h,v,us,e,h1,h2];have O:lw x=v_/\lwL r=true:=by simpa [lwL] using hl
  exact⟨v,us,e,AcS t O.1 h1,isL_lw t O.2 h2⟩
end
def CW:∀{ps:om (Str×D)},(∀p∈ps,xn p.2)->lwL (ps.map (·.2))=v_
 | [],_=>rfl
 |p::r,h=>by
  have h1:=(h p ue).2.2.1;have h2:=CW (ps:=r) λq O=>h q (uc _ O);simp![ur,lwL,h1,h2,Vb]
variable {zs:om Str}
def NH (h:∀z∈zs,nm z=v_):∀z∈zs,↑z<=100:=λz O=>by have:=ZX (h z O);omega
def zC {H:Hp}:∀{zs:om Str}{vs:om V},L2.IsL H (zs.map D.str) vs->vs=zs.map V.str
 | [],_,h=>h
 |z::r,_,h=>by
  erw[h,v,us,rfl,[rfl,_],h2];rw[zC h2]
  rfl
nonrec def N9:om Str:= ["a","b1","c/d","e.f","g","h9","k","m/n","zz"]
def AcM:∀z∈N9,nm z=true:=by decide+kernel
inductive Mx (K:PySem.W.Frag):Sp
 |mk (a:Addr)(ns:List Int)(_:vs= [.ref a])(_:SqL K H a (ns.map V.int))(_:↑ns<=63)(_:∀H',Q (.bl v_) H')
def AaQ:#[C,18,a.f_law,a.d_law,["script"],(Mx K)]:=by
 have QI:=#[Aj,T];have ZN:=#[Pr,T,C];have Ky:=#[Lv,T];have O:=#[DU,T];have jm:=#[D3,T];have Wp:=#[DT,T,C];have zL:=#[LD,T];have xl:=#[Bl,T,C];have U:=#[D2,T];refine T.BH.F.ok JH () (λ_ A _ s H vs Q E hr h=>?_)
 erw[h,q,ns,rfl,hq,bD,k];have hs:=uw;exists 3,%[#[qK,#[QD,#[Qo,#[qy,ZN,T.lJ,#v[#[qy,QI,T.ix,#v[pv 0,ql]]]]]],%[|#[qv,ju]],qx],#[qD,(1),JH.nd,#[qy,Ky,T.mn,#v[pv 0]]],#[qD,2,(2),4,JH.nd,rfl,VV rfl,#[qR,#[Zg,1,rfl],T.z_dict,Ho,#v[pv 1]],_,_],#[qK,#[qt,Qk,#[qS,yS,#[qy,QI,T.ix,#v[pv 0,ql]],ql],ql],%[|#[qD,2,(2),4,JH.nd,rfl,VV rfl,#[qy,O,T.mB,#v[pv 0,pv 1]],_,_]],qx],#[qD,(3),JH.nd,#[Za,T.M_Project,jm,hr.mono (),T.m_Project,T.kw,qH,#v[#[qR,qP,T.Qr,vc,#v[#[AaF,3,#[zk,["name","sources"],[2],En (qq Lg) ["script","pairs","sources","project","runs","names","name","found","other"],#[wn,pv 2],(λ_ _ _ _ _ _=>#[qU,(0),(show Vy (["name","sources"]:om Str) by decide+kernel)]),(λ_ _ _ _ _ _=>#[qB,#v[pv 0,#[Ql,6,Qs hr,pv 1,pv 0,(λ_ _=>rfl)]]])]]]]]]],#[qD,(4),JH.nd,#[qJ,qI,#[qy,Wp,T.lW,#v[pv 2]],ql]],#[qD,(5),JH.nd,#[QA,#v[qp,qp,qp,qp,qp,qp,qp,qp,qp]]],#[qK,#[qt,oE,#[qA,qL,T.yh,uH,#v[pv 1]],ql],%[|#[qD,(5),JH.nd,#[qy,zL,T.lz,#v[pv 0,ql,ql]]]],qx],#[Yh,#[Zd,pv 5],#[qU,(6),JH.nd],%[#[qD,(7),JH.nd,#[qy,xl,T.lT,#v[pv 3,pv 6]]],@qK _ _ _ _ _ _ _ _ #[ZT,#[QD,#[Qo,#[qA,#[qZ,2,rfl],T.qY,uY,#v[pv 7,#[Q7,.ty "tuple",T.Qr,vc]]]]],#[xJ,#[qt,#[DF,1,hr.units],pv 7,#[qy,U,T.mO,#v[pv 4,pv 6]]]]].pt %[|#[qv,ju]] qx|#[Yh,#[pi_tup,#[Yc,Di,#[qJ,qI,pv 7,ql],jl,#[YT,ql]]],#[qU,(8),JH.nd],%[|#[qK,#[qt,#[OQ,1,hr.units],#[qA,Zp,T.Z1,Hk,#v[#[qJ,qI,#[qy,xl,T.lT,#v[pv 3,pv 8]],ql]]],#[qA,Zp,T.Z1,Hk,#v[#[qJ,qI,pv 7,ql]]]],%[|#[qv,ju]],qx]]]]]|#[qv,ju]]
 exists 8,N1,q1
 exists 0,q,ns,(3),1,(),hq,λc0=>[c0:1:λH0 s0=>[0:iW (q1 _ _ ?_)]]
 have hq:=qam hq s0;exists 8,N2,q2
 exists 0,q,ns,1,hq,λL ps us H1 s1 hL aC hok aZ bE=>q2 _ _ ?_;have aD:IE ps:=[hok:aZ];exists 8,N3,q3;erw[qan aC,ts,vs,a1,e1,e2,e3,e4];have bF:↑vs=↑ps:=by
  have:=Ab VC e3
  rwa[u9,u9] at this
 exists 0,L,vs,1,⟨ts,by rw[hL,a1],e1,e2⟩,(by rw[e3];exact hok.1.2),(),λd0 aE=>q3 _ _ ?_
 have s2:=qi aE (.dK (iy vs));have aF:Yr (upd H1 d0 (.dK (iy vs))) d0 ps:=⟨vs,qk,e3,e4.mono s2.tk⟩;have ae:=s2 _ _ hL;have ak:=aC.mono s2.tk;generalize upd H1 d0 (.dK (iy vs))=H2 at s2 aF ae ak⊢;have am:=qam hq (s1.trans s2);exists 8,N4,q4;have aG:∀(d:o6) (ps':om (Str×D)) (H3:Hp),ie H2 H3->Yr H3 d ps'->IE ps'->L≠d->N4 [u_ (.ref q),u_ (.ref L),u_ (.ref d),U_,U_,U_,U_,U_,U_] H3:=by
  intro d ps' H3 s3 ao Z a2;refine q4 _ _ ?_;have a3:=qam am s3;have a4:=s3 _ _ ae;have a5:=Z.few;erw[id ao,aa,af,f1,f2];have bG:↑aa=↑ps':=by
   have:=Ab VC f1
   rwa[u9,u9] at this
  exists 8,N5,q5
  exists d,iy aa,af,λo=>?_;have a6:∀b xs,H3 b=u_ (.tup xs)->(upd H3 d (.frz o (.dK (iy aa)))) b=u_ (.tup xs):=λb xs e=>by
   rw[qm (λz=>by rw[z,af] at e;cases e)]
   exact e
  have ap:AE (upd H3 d (.frz o (.dK (iy aa)))) d o ps':=⟨aa,qk,f1,isL_lw a6 (CW Z.ok.2) f2⟩;have aH:(upd H3 d (.frz o (.dK (iy aa)))) L=u_ (.lst us):=by rwa[qm a2]
  have aI:SqL K (upd H3 d (.frz o (.dK (iy aa)))) q (ns.map V.int):=by
   rcases a3 with(h|⟨o',h⟩)|h
   ·exact .inl (.inl (by rw[qm (λz=>by rw[z,af] at h;cases h)];exact h))
   ·exact .inl (.inr ⟨o',by rw[qm (λz=>by rw[z,af] at h;cases h)];exact h⟩)
   ·exact .inr h
  generalize upd H3 d (.frz o (.dK (iy aa)))=H4 at ap aH aI⊢;erw[id ap,ac,aq,g1,g2];have a7:(iy ac).map (·.1)=(ps'.map (·.1)).map Sum.inr:=by
   unfold iy;rw[<-g1,uN,uN]
   rfl
  exists 0,d,o,0,aq,λA hA=>?_;refine PY (tl:= [u_ (.ref d)]) (ls:=ps'.map (·.1)) (λi ys H'=>L2.IsL H' ((ps'.take i).map prD) ys/\ie H4 H') aq a7 (by rw[u9];omega) [1:qi hA _] (λi ys H' h=>h.2) ?_ ?_
  ·rintro i z ys H' hz ⟨ag,s'⟩ a8 R hR;rw[uD] at hz;obtain⟨p,hp,rfl⟩:∃p,ps'[i]? =u_ p/\p.1=z:=by
    cases hp:ps'[i]? with
    |none=>rw[hp] at hz;cases hz
    |some p=>rw[hp] at hz;exact[p:1:uF hz]
   have au:=uK hp;erw[WW g1 g2 (Up (f:=(·.1)) au),l1,l2];rw[sw Z.ok.1.2 au] at l2;have bH:=(Z.sh p au).1
   exists 0,0,0,d,0,.inl ⟨_,Vj p.1,.inr [o:s' _ _ aq],1,l1.symm⟩,sml rfl,λt ht=>?_;have m1:=qi ht (.tup [.str p.1,Jm ac p.1]);have i1:Is (upd H' t (.tup [.str p.1,Jm ac p.1])) (prD p) (.ref t):=Is.new (ds:= [.str p.1,p.2]) ⟨_,0,[1:mt ()],_,0,l2.mono s'.tk,1⟩ ht
   have aJ:=m1 _ _ a8;have tk:Tk (upd H' t (.tup [.str p.1,Jm ac p.1])) (upd (upd H' t (.tup [.str p.1,Jm ac p.1])) A (.lst (ys++ [.ref t]))):=Tk.updL aJ;refine hR _ _ aJ [?_:λb ob e=>?_]
   ·rw[vb,hp,uh];exact((ag.mono m1.tk).mono tk).append (L2.IsL.one (i1.mono tk))
   ·rw[qm (qo e hA)];exact m1 _ _ (s' _ _ e)
  rintro ys H5 ⟨ag,s5⟩ a9;rw[u9,vy] at ag
  exists A,ys,1,.inl [SqL.of a9:λt ht=>?_];have m1:=qi ht (.tup ys);intro x dx nx ba bI;have m2:ie (upd H5 t (.tup ys)) (upd (upd (upd H5 t (.tup ys)) dx (.own x)) x (.ins a.qQ dx [])):=λb ob e=>by
   rwa[qm (qo e nx),qm (qo e ba)]
  have aK:=m1.trans m2
  exists x,dx,t,ps',ys,1,qk,m2 _ _ qk,ag.mono aK.tk,Z.ok,a5,λqs H6 keep hP hT aw=>[1:q5 _ _ ?_];have s6:ie H5 H6:=λb ob e=>keep b ob (aK _ _ e) (qo (m1 _ _ e) nx);have aL:=s5.trans s6;have bb:PQ ps' qs:=⟨aw,hT,Z.ok.1.2,λp hp=>(Z.sh p hp).1⟩;exists 8,N6,q6
  exists 0,d,o,ps',qs,1,ap.same aL,bb,λt4 vd rd rr H7 s7 bc bd be=>?_
  exists t4,_,_,0,1,SqT.of bc,1,q6 _ _ ?_;exists 8,N7,q7
  exists sml rfl,λl5 h5=>q7 _ _ ?_;have s8:=qi h5 (.lst (N9.map V.str));have e5:upd H7 l5 (.lst (N9.map V.str)) l5=u_ (.lst (N9.map V.str)):=qk;show cl _ _ _ _ _ (upd H7 l5 (.lst (N9.map V.str)));generalize upd H7 l5 (.lst (N9.map V.str))=H8 at s8 e5⊢;have aM:=s7.trans s8;have aN:=aL.trans aM;exists 8,N8,q8;have aO:=bd.same s8;have aP:=hP.same aM;have go:∀(l:o6) (zs:om Str) (H9:Hp),ie H8 H9->H9 l=u_ (.lst (zs.map V.str))->(∀z∈zs,nm z=v_)->N8 [u_ (.ref q),u_ (.ref L),u_ (.ref d),u_ (.ref x),u_ (.ref rd),u_ (.ref l),U_,U_,U_] H9:=by
   intro l zs H9 s9 hl ax;refine q8 _ _ ?_;exists 8,N9,q9
   exists 0,l,1,[_:SqL.of hl]
   let J_:Nat->L2.St->Hp->Prop:=λi σ H'=>(∃u6 u7 u8,σ= [u_ (.ref q),u_ (.ref L),u_ (.ref d),u_ (.ref x),u_ (.ref rd),u_ (.ref l),u6,u7,u8])/\ie H9 H'
   refine XS (xs:=zs.map V.str) J_ [[_:_:0]:ie.refl _] (λi σ H' _ h=>SqL.of (h.2 _ _ hl)) ?_ ?_
   ·rintro i y σ Ha hy ⟨⟨u6,u7,u8,rfl⟩,sa⟩;erw[Ag.mp (uK hy),z,hz,rfl];have aQ:=ax z hz;have ay:=s9.trans sa;show mX _ _ _ _ Ha;exists 8,B1,b1
    exists 0,0,x,z,qs,1,aQ,aP.same ay,hT,λv Hb sb ib=>b1 _ _ ?_;erw[Ada hT z,cs,rs,ec,c1,c2,bJ,c3];have bK:=ib;rw[ec] at ib;erw[id ib,qa,wa,rfl,bf,x1,r1,rfl,bL,x2,r2,rfl,bg,aR];cases(show r2= [] from aR)
    erw[id bg,qb,wb,rfl,bh,bo];cases zC bo;exists 8,B2,b2
    exists 0,_,"tuple",tyD (.tup [.tup (cs.map D.str),.tup (rs.map D.str)]),XO (.tup [.tup (cs.map D.str),.tup (rs.map D.str)]),1,ib.ty,JS _,0,iW ?_
    exists 0,0,0,rd,z,qs,rr,1,aQ,hT,(aO.same ay).same sb,be,λv2 Hc sc ic=>?_;rw[ec] at ic;erw[Ef cs rs,k1,k2]
    exists _,_,ib.mono sc.tk,ic,k1,k1,k2,0,iN (by rw[(eqNL_iff k1).mpr rfl];rfl) (b2 _ _ ?_)
    have al:=sc _ _ bf;have ad:=sc _ _ bh;have bp:=((aP.same ay).same sb).same sc
    exists 0,qa,_,_,0,1,SqT.of al,1,0,qb,0,SqT.of ad,λ_=>?_,λ_ p hp=>?_;obtain⟨Hd,ah⟩:∃Hd,Hd=Hc:=⟨0⟩;have sd:ie Hc Hd:=by rw[ah];exact ie.refl _
    rw[<-ah];obtain⟨os,aS,ht⟩:∃os:om Str,(∀o∈os,o∈rs)/\Hd qb=u_ (.tup (os.map V.str)):=⟨rs,λ_ h=>h,by rwa[ah]⟩
    exists qb,1,[_:SqT.of ht];clear ah;rotate_left;have sd:=qi hp (.tup (sN (rs.map V.str) U_ (u_ 3)));obtain⟨os,aS,ht⟩:∃os:om Str,(∀o∈os,o∈rs)/\(upd Hc p (.tup (sN (rs.map V.str) U_ (u_ 3)))) p=u_ (.tup (os.map V.str)):=⟨rs.take 3,λ_ h=>vY h,by rw[qk,show(u_ (3:Int))=u_ ((3:Nat):Int) from rfl,Z2,<-HF]⟩
    generalize upd Hc p (.tup (sN (rs.map V.str) U_ (u_ 3)))=Hd at sd ht⊢
    exists p,1,[_:SqT.of ht];rotate_left
    all_goals
     let J3_:Nat->L2.St->Hp->Prop:=λi σ H'=>(∃u8,σ= [u_ (.ref q),u_ (.ref L),u_ (.ref d),u_ (.ref x),u_ (.ref rd),u_ (.ref l),u_ (.str z),u_ (.ref qa),u8])/\ie Hd H'
     refine Ww (xs:=os.map V.str) J3_ [⟨0⟩:ie.refl _] (λi σ H' _ h=>SqT.of (h.2 _ _ ht)) ?_ ?_
     ·rintro i y σ He hy ⟨⟨u8,rfl⟩,se⟩;erw[Ag.mp (uK hy),o',bq,rfl];have aT:=aS o' bq;erw[c3 o' aT,ms,em,pm];have aU:=sd.trans se
      exists 0,0,x,o',qs,1,c2 o' aT,bp.same aU,hT,λv3 Hf sf i3=>?_;rw[em] at i3;erw[i3,qc,wc,rfl,bt,y1,bM,rfl,bN,y2,bu,rfl,bv,aA];cases(show bu= [] from aA)
      erw[bv,qd,wd,rfl,bw,bx];cases zC bx
      exists qc,_,_,0,1,SqT.of bt,1,qd,ms,1,SqT.of bw,(by rw[pm.length_eq];omega),λaB t1 p1 o1 h1=>?_
      have aV:=qi h1 (.lst (aB.map V.str));have aW:=(aU.trans sf).trans aV
      exists 0,qa,_,_,0,1,SqT.of (aW _ _ al),1,qb,rs,1,SqT.of (aW _ _ ad),(),λbA t2 p2 o2 h2=>?_
      have aX:=qi h2 (.lst (bA.map V.str));cases kU o1 o2 (p1.trans (pm.trans p2.symm));have aY:=NH λy hy=>c2 y (p2.mem_iff.mp hy);erw[qap aB,j1,j2];exact⟨t1,t2,_,_,aB.map D.str,1,1,SqL.of (aX _ _ qk),SqL.of qk,Yg aY,Yg aY,j1,(),0,iW [⟨0⟩:((se.trans sf).trans aV).trans aX]⟩
     ·rintro σ He ⟨⟨u8,rfl⟩,se⟩;exact[[_:_:0]:((sa.trans sb).trans sc).trans (sd.trans se)]
   ·rintro σ Ha _;exact q9 _ _ (k Ha)
  have bB:=qam aI aN
  exists 0,L,0,.inl (SqL.of (aN _ _ aH)),_,0,1,0,li (λ_=>?_) (λ_=>go l5 N9 H8 (ie.refl _) e5 AcM);exact⟨0,q,ns,(95),(8),1,bB,(),(),(),λl6 zs H9 s9 e6 ax=>go l6 zs H9 s9 e6 λz hz=>(ax z hz).1⟩
 have bC:L≠d0:=qo hL aE
 exists 0,q,ns,(1),1,(),am,λc1=>⟨_,0,1,(by show(0:Int)<2;decide),1,0,li (λ_=>?_) (λ_=>aG d0 ps H2 (ie.refl _) aF aD bC)⟩
 exact⟨0,0,q,L,ns,ps,us,1,am,ae,ak,aD,λd ps' H3 s3 hd ao Z=>aG d ps' H3 s3 ao Z (qo ae hd)⟩
end
def Acf {K:o0}{h:o9}{mg:Str->oq o7}(X:K.In h)(G:h.Ns VG mg){U Z O aa f1 f2 f3 f4 f5 f6 f7 f8 f9 aU aV aW aX aY aZ a1 a2 a3 a4 a5 a6 a7 a8 a9 ba bb bc bd be bf bg bh bo bp bq bt bu bv bw bx bA bB bC bD bE bF bG bH bI bJ bK bL bM bN bO bP bQ bR bS bT bU bV bW bX bY bZ b3 b4 b5 b6 b7 b8 b9 ca cb cc cd ce cf cg ch ci cj:o6}{t1 t2 t3 t4 t5 t6 t7 t8 t9 ck cm:Tok}
  (aK:#[K,"Machine"]=u_ (u_ (.ref U))) (aL:Cls K U) (aB:PySem.W.makesIn K U=v_/\PySem.W.keepIn K (.ref U)=v_)
  (aO:#[K,"Going"]=u_ (u_ (.ref Z))) (aP:Cls K Z) (aJ:PySem.W.makesIn K Z=v_/\PySem.W.keepIn K (.ref Z)=v_)
  (aD:#[K,"PlainOrder"]=u_ (u_ (.ref O))) (aE:Cls K O) (af:PySem.W.makesIn K O=v_/\PySem.W.keepIn K (.ref O)=v_)
  (aM:#[K,"Project"]=u_ (u_ (.ref aa))) (aN:Cls K aa) (aC:PySem.W.makesIn K aa=v_/\PySem.W.keepIn K (.ref aa)=v_)
  (h1:FZg K "is_text" WP f1)
  (h2:FZg K "is_tree" XF f2)
  (h3:FZg K "is_name" wC f3)
  (h4:FZg K "is_pair" WI f4)
  (h5:FZg K "is_row_of_names" y9 f5)
  (h6:FZg K "is_answer" XC f6)
  (h7:FZg K "part_of" WD f7)
  (h8:FZg K "pieces_of" Xm f8)
  (h9:FZg K "row_of" Z0 f9)
  (h10:FZg K "read_lines" J5 aU)
  (h11:FZg K "rule_rows" Xt aV)
  (h12:FZg K "bad_line" zQ aW)
  (h13:FZg K "is_rule" wp aX)
  (cn:FZg K "text_made" Xy aY)
  (cp:FZg K "self_made" Xh aZ)
  (cq:FZg K "copy_made" Xn a1)
  (cr:FZg K "row_made" zH a2)
  (cs:FZg K "put_made" Zf a3)
  (cu:FZg K "join_made" Xu a4)
  (cv:FZg K "first_made" J3 a5)
  (cw:FZg K "rest_made" Xs a6)
  (cx:FZg K "size_made" Xj a7)
  (cy:FZg K "cut_made" Zb a8)
  (cz:FZg K "glue_made" Xk a9)
  (cA:FZg K "is_jump_taken" YW ba)
  (cB:FZg K "asked_or_fault" Yo bb)
  (aQ:FZm K U "__init__" "Machine.__init__" jt bc)
  (cC:FZm K U "now" "Machine.now" jX bd)
  (cD:FZm K U "answer" "Machine.answer" Yt be)
  (cE:FZm K U "asked" "Machine.asked" Y2 bf)
  (cF:FZm K U "go_on" "Machine.go_on" YJ bg)
  (cG:FZm K U "is_waiting" "Machine.is_waiting" yg bh)
  (cH:FZm K U "do_row" "Machine.do_row" Yq bo)
  (cI:FZm K U "hold" "Machine.hold" jp bp)
  (aR:FZm K Z "__init__" "Going.__init__" JO bq)
  (cJ:FZm K Z "begin" "Going.begin" jH bt)
  (cK:FZm K Z "look" "Going.look" Jp bu)
  (cL:FZm K Z "wanted" "Going.wanted" jk bv)
  (cM:FZm K Z "take" "Going.take" J0 bw)
  (cN:FZm K Z "full" "Going.full" JE bx)
  (aS:FZm K O "__init__" "PlainOrder.__init__" Ya bA)
  (cO:FZm K O "begin_anew" "PlainOrder.begin_anew" QY bB)
  (cP:FZm K O "go_through" "PlainOrder.go_through" Q0 bC)
  (cQ:FZm K O "enter" "PlainOrder.enter" yP bD)
  (cR:FZm K O "settle" "PlainOrder.settle" yw bE)
  (cS:FZm K O "runner" "PlainOrder.runner" yr bF)
  (cT:FZm K O "leave" "PlainOrder.leave" yC bG)
  (cU:FZm K O "go_on" "PlainOrder.go_on" yG bH)
  (cV:FZm K O "answer_yet" "PlainOrder.answer_yet" Q1 bI)
  (cW:FZg K "answer_at_once" Yp bJ)
  (cX:FZg K "answer_by" Xl bK)
  (cY:FZg K "check_name" Js bL)
  (cZ:FZg K "check_names" jV bM)
  (c0:FZg K "order_from" J7 bN)
  (c1:FZg K "order_over" JC bO)
  (c2:FZg K "chain_of" zR bP)
  (c3:FZg K "is_source" xO bQ)
  (aT:FZm K aa "__init__" "Project.__init__" Yd bR)
  (c4:FZm K aa "sources" "Project.sources" jC bS)
  (c5:FZm K aa "source_of" "Project.source_of" yt bT)
  (c6:FZm K aa "looked_up" "Project.looked_up" QW bU)
  (c7:FZg K "longest_row" jL bV)
  (c8:FZg K "_law_cell_at" jJ bW)
  (c9:FZg K "_law_pot" Wa bX)
  (da:FZg K "_law_take" zw bY)
  (de:FZg K "_law_word" zO bZ)
  (dh:FZg K "_law_line" xb b3)
  (di:FZg K "_law_rule" xh b4)
  (dj:FZg K "_law_maker" Xa b5)
  (dk:FZg K "_law_leaf" xf b6)
  (dl:FZg K "_law_source" J2 b7)
  (dm:FZg K "_law_all_names" Y0 b8)
  (dq:FZg K "_law_link" zT b9)
  (dt:FZg K "_law_sources" jT ca)
  (dv:FZg K "_law_wide_names" Yw cb)
  (dw:FZg K "_law_drawn_names" yd cc)
  (dy:FZg K "_law_tried" Xp cd)
  (dz:FZg K "_law_looked_up" YN ce)
  (dA:FZg K "_law_by_rounds" Q9 cf)
  (dB:FZg K "_law_ringed" JF cg)
  (dC:FZg K "_law_chain" Xc ch)
  (dD:FZg K "_law_deep_right" Yx ci)
  (dE:FZg K "law" Lg cj)
  (ax:#[K,U,"rows"])
  (ay:#[K,U,"rule"])
  (aF:#[K,U,"own"])
  (ao:#[K,U,"boxes"])
  (ap:#[K,U,"place"])
  (aA:#[K,U,"done"])
  (aq:#[K,U,"given"])
  (au:#[K,U,"there"])
  (aH:#[K,Z,"name"])
  (aG:#[K,Z,"order"])
  (aw:#[K,Z,"made_by"])
  (ak:#[K,Z,"rule_asks"])
  (am:#[K,Z,"rule_run"])
  (aI:#[K,Z,"end"])
  (ac:#[K,O,"given_project"])
  (ag:#[K,O,"stack"])
  (ad:#[K,O,"under_way"])
  (ae:#[K,O,"full_runs"])
  (ah:#[K,O,"found"])
  (al:#[K,aa,"by_name"])
  (g1:#[K,"MOST_SIGNS"]=u_ (u_ (.int 300 t1)))
  (g2:#[K,"MOST_PARTS"]=u_ (u_ (.int 40 t2)))
  (g3:#[K,"MOST_SIZE"]=u_ (u_ (.int 600 t3)))
  (g4:#[K,"MOST_DEPTH"]=u_ (u_ (.int 12 t4)))
  (g5:#[K,"MOST_NAME_SIGNS"]=u_ (u_ (.int 24 t5)))
  (g6:#[K,"LETTERS"]=u_ (u_ (.str "abcdefghijklmnopqrstuvwxyz" t6)))
  (g7:#[K,"NAME_SIGNS"]=u_ (u_ (.str "abcdefghijklmnopqrstuvwxyz0123456789./" t7)))
  (g8:#[K,"PERCENT"]=u_ (u_ (.int 37 t8)))
  (g9:#[K,"MOST_LINES"]=u_ (u_ (.int 40 t9)))
  (dF:#[K,"MOST_DONE"]=u_ (u_ (.int 300 ck)))
  (dG:#[K,"MOST_NAMES"]=u_ (u_ (.int 60 cm)))
  (zz:∀x∈(["ord","len","isinstance","str","tuple","all","int","range","zip","dict","sorted","abs","min","sum","max","reversed","list"]:om Str),PySem.W.nsIn K VG x=u_ U_):∃a,Tx K mg a:=by
 exists 6,d1,F1,Qj,h1,["value"];exists 6,d2,F2,Qj,h2,["value"];exists 6,d3,F3,Qj,h3,["value"];exists 6,d4,F4,Qj,h4,["value"];exists 6,d5,F5,Qj,h5,["tree"];exists 6,d6,F6,Qj,h6,["ask","answer"];exists 6,d7,F7,Qj,h7,["kind","piece","count"];exists 6,d8,F8,Qj,h8,["line","form"];exists 6,d9,F9,Qj,h9,["line","count"];exists 6,dH,dI,Qj,h10,["value"];exists 6,dJ,dL,Qj,h11,["tree"];exists 6,dM,dN,Qj,h12,["tree"];exists 6,dO,dP,Qj,h13,["value"];exists 6,dQ,dR,Qj,cn,["boxes","own","parts"];exists 6,dS,dU,Qj,cp,["boxes","own","parts"];exists 6,dV,dW,Qj,cq,["boxes","own","parts"];exists 6,dX,dY,Qj,cr,["boxes","own","parts"];exists 6,dZ,d0,Qj,cs,["boxes","own","parts"];exists 6,ea,eb,Qj,cu,["boxes","own","parts"];exists 6,ec,ed,Qj,cv,["boxes","own","parts"];exists 6,ef,eg,Qj,cw,["boxes","own","parts"];exists 6,eh,ei,Qj,cx,["boxes","own","parts"];exists 6,ej,ek,Qj,cy,["boxes","own","parts"];exists 6,el,em,Qj,cz,["boxes","own","parts"];exists 6,eo,eq,Qj,cA,["boxes","word","parts"];exists 6,er,et,Qj,cB,["word","held"];obtain⟨eu,ew⟩:=yV aQ ["self","rule","own"] (by rfl');obtain⟨ey,ez⟩:=yV cC ["self"] (by rfl');obtain⟨eA,eB⟩:=yV cD ["self","tree"] (by rfl');obtain⟨eC,eD⟩:=yV cE ["self"] (by rfl');obtain⟨eE,eF⟩:=yV cF ["self"] (by rfl');obtain⟨eG,eH⟩:=yV cG ["self"] (by rfl');obtain⟨eI,eJ⟩:=yV cH ["self","row"] (by rfl');obtain⟨eK,eL⟩:=yV cI ["self","box","tree"] (by rfl');obtain⟨eM,eN⟩:=yV aR ["self","name","source","order"] (by rfl');obtain⟨eO,eP⟩:=yV cJ ["self","rule"] (by rfl');obtain⟨eQ,eR⟩:=yV cK ["self"] (by rfl');obtain⟨eS,eT⟩:=yV cL ["self"] (by rfl');obtain⟨eU,eV⟩:=yV cM ["self","answer"] (by rfl');obtain⟨eW,eX⟩:=yV cN ["self"] (by rfl');obtain⟨eY,eZ⟩:=yV aS ["self","project"] (by rfl');obtain⟨e0,e1⟩:=yV cO ["self","project"] (by rfl');obtain⟨e2,e3⟩:=yV cP ["self","name"] (by rfl');obtain⟨e4,e5⟩:=yV cQ ["self","name"] (by rfl');obtain⟨e6,e7⟩:=yV cR ["self","going"] (by rfl');obtain⟨e8,e9⟩:=yV cS ["self","rule","own"] (by rfl');obtain⟨fa,fb⟩:=yV cT ["self","going"] (by rfl');obtain⟨fc,fe⟩:=yV cU ["self","going"] (by rfl');obtain⟨ff,fg⟩:=yV cV ["self","name"] (by rfl');exists 6,fh,fi,Qj,cW,["source"];exists 6,fj,fm,Qj,cX,["end"];exists 6,fo,fq,Qj,cY,["name"];exists 6,ft,fu,Qj,cZ,["names"];exists 6,fv,fw,Qj,c0,["project","name"];exists 6,fx,fy,Qj,c1,["project","names"];exists 6,fz,fA,Qj,c2,["project","name"];exists 6,fB,fC,Qj,c3,["value"];obtain⟨fD,fE⟩:=yV aT ["self","sources"] (by rfl');obtain⟨fF,fG⟩:=yV c4 ["self"] (by rfl');obtain⟨fH,fI⟩:=yV c5 ["self","name"] (by rfl');obtain⟨fJ,fK⟩:=yV c6 ["self","ask"] (by rfl');exists 6,fL,fM,Qj,c7,["names"];exists 6,fN,fO,Qj,c8,["script","k"];exists 6,fP,fQ,Qj,c9,["cell","salt"];exists 6,fR,fS,Qj,da,["pot","many"];exists 6,fT,fU,Qj,de,["pot","names"];exists 6,fV,fW,Qj,dh,["pot","names","many","k"];exists 6,fX,fY,Qj,di,["pot","names"];exists 6,fZ,f0,Qj,dj,["pot","names"];exists 6,ga,gb,Qj,dk,["pot","names"];exists 6,gc,ge,Qj,dl,["pot","names"];exists 6,gf,gg,Qj,dm,["script"];exists 6,gh,gj,Qj,dq,["pot","names","k"];exists 6,gk,gl,Qj,dt,["script"];exists 6,gm,gp,Qj,dv,["script"];exists 6,gq,gr,Qj,dw,["script","salt","many"];exists 6,gt,gu,Qj,dy,["sources","name","values"];exists 6,gv,gw,Qj,dz,["sources","kind","text"];exists 6,gx,gy,Qj,dA,["sources"];exists 6,gz,gA,Qj,dB,["script","pairs"];exists 6,gB,gC,Qj,dC,["runs","name"];exists 6,gD,gE,Qj,dD,["cell"];exists 6,gF,gG,Qj,dE,["script"];have z:∀x∈(["ord","len","isinstance","str","tuple","all","int","range","zip","dict","sorted","abs","min","sum","max","reversed","list"]:om Str),mg x=none:=λx hx=>PySem.W.mg_none_of X G (zz x hx);simp![uC,vk,uP,forall_eq_or_imp,forall_eq] at z;erw[z,z1,z2,z3,z4,z5,z6,z7,z8,z9,gH,gI,gJ,gK,gL,gM,gN,gO];exact[⟨f1,d1,f2,d2,f3,d3,f4,d4,f5,d5,f6,d6,f7,d7,f8,d8,f9,d9,aU,dH,aV,dJ,aW,dM,aX,dO,aY,dQ,aZ,dS,a1,dV,a2,dX,a3,dZ,a4,ea,a5,ec,a6,ef,a7,eh,a8,ej,a9,el,ba,eo,bb,er,bc,eu,bd,ey,be,eA,bf,eC,bg,eE,bh,eG,bo,eI,bp,eK,bq,eM,bt,eO,bu,eQ,bv,eS,bw,eU,bx,eW,bA,eY,bB,e0,bC,e2,bD,e4,bE,e6,bF,e8,bG,fa,bH,fc,bI,ff,bJ,fh,bK,fj,bL,fo,bM,ft,bN,fv,bO,fx,bP,fz,bQ,fB,bR,fD,bS,fF,bT,fH,bU,fJ,bV,fL,bW,fN,bX,fP,bY,fR,bZ,fT,b3,fV,b4,fX,b5,fZ,b6,ga,b7,gc,b8,gf,b9,gh,ca,gk,cb,gm,cc,gq,cd,gt,ce,gv,cf,gx,cg,gz,ch,gB,ci,gD,cj,gF,U,Z,O,aa⟩:⟨F1,F2,F3,F4,F5,F6,F7,F8,F9,dI,dL,dN,dP,dR,dU,dW,dY,d0,eb,ed,eg,ei,ek,em,eq,et,ew,ez,eB,eD,eF,eH,eJ,eL,eN,eP,eR,eT,eV,eX,eZ,e1,e3,e5,e7,e9,fb,fe,fg,fi,fm,fq,fu,fw,fy,fA,fC,fE,fG,fI,fK,fM,fO,fQ,fS,fU,fW,fY,f0,gb,ge,gg,gj,gl,gp,gr,gu,gw,gy,gA,gC,gE,gG,aL,⟨aB.1,aQ.1,aQ.2.1,aB.2⟩,uT X G aK,ax,ay,aF,ao,ap,aA,aq,au,aP,⟨aJ.1,aR.1,aR.2.1,aJ.2⟩,uT X G aO,aH,aG,aw,ak,am,aI,aE,⟨af.1,aS.1,aS.2.1,af.2⟩,uT X G aD,ac,ag,ad,ae,ah,aN,⟨aC.1,aT.1,aT.2.1,aC.2⟩,uT X G aM,al,[_:uT X G g1],[_:uT X G g2],[_:uT X G g3],[_:uT X G g4],[_:uT X G g5],[_:uT X G g6],[_:uT X G g7],[_:uT X G g8],[_:uT X G g9],[_:uT X G dF],[_:uT X G dG],z1,z2,z3,z4,z5,z6,z7,z8,z9,gH,gI,gJ,gK,gL,gM,gN,gO⟩]
variable {K:o0}{h:o9}{mg:Str->oq o7}
def mk1 (X:K.In h)(G:h.Ns VG mg){O f:o6}{y:Str}(z:∃m,PySem.W.nsIn K VG y=u_ (u_ (.ref m))/\PySem.W.nsIn K O x=u_ (u_ (.ref m)))(e:mg y=u_ (.ref f)):PySem.W.nsIn K O x=u_ (u_ (.ref f)):=by
 erw[z,m,h1,h2];have:=(uT X G h1).symm.trans e;injection this with this
 injection this with this
 rw[<-this];exact h2
nonrec def MKP:om (Str×Str):= [("text","text_made"),("self","self_made"),("copy","copy_made"),("row","row_made"),("put","put_made"),("join","join_made"),("first","first_made"),("rest","rest_made"),("size","size_made"),("cut","cut_made"),("glue","glue_made")]
nonrec def Abc (e:GS):oq Str:=match e.key with
 | .str x _=>u_ x
 |_=>U_
variable {a:o6}{es:Array GS}{n:Nat}
def none_of (hl:K.lookup a=u_ ⟨.type "dict",U_,.dict es n,#[]⟩)(hk:es.toList.map Abc=FRM.map λx=>u_ x.1)(hz:xH z=U_):PySem.W.nsIn K a z=u_ none:=by
 have h1:∀e∈es.toList,∃x t,e.key= .str x t/\x≠z:=by
  intro e U;have hm:Abc e∈es.toList.map Abc:=Ag.mpr [e:U:1];rw[hk] at hm;erw[Ag.mp hm,x,Z,ex];have O:=wQ hz x Z;unfold Abc at ex;split at ex
  ·rename_i y t hy
   cases ex;exact⟨_,_,hy,O⟩
  ·cases ex
 unfold PySem.W.nsIn;rw[hl]
 try dsimp only
 have f1:es.toList.find? (λe=>e.key.isStr z)=none:=by
  rw[Uz];intro e U;erw[h1 e U,x,t,Z,O];rw[Z];exact λq=>O (um q)
 have f2:es.toList.any (·.refKey)=false:=by
  rw[Fb];intro e U;erw[h1 e U,x,t,Z,O];unfold rJ;rw[Z];exact ua
 rw[f1,f2]
 rfl
def Ac2 {w:oh}{K:o0}{h:o9}{mg:Str->oq o7}{a:Ad}(T:Tx K mg a)(X:K.In h)(G:h.Ns VG mg){aB aA aF Z O U:o6}{eF eM:Array GS}{nF nM:Nat}
  (gB:#[K,"BOXES"]=u_ (u_ (.ref aB))) (gA:#[K,"ASKING"]=u_ (u_ (.ref aA))) (gF:#[K,"FORMS"]=u_ (u_ (.ref aF))) (gM:#[K,"MAKERS"]=u_ (u_ (.ref Z)))
  (lB:TZ K aB BX) (lA:TZ K aA ["ask","has","names"]) (lF:K.lookup aF=u_ ⟨.type "dict",U_,.dict eF nF,#[]⟩) (lM:K.lookup Z=u_ ⟨.type "dict",U_,.dict eM nM,#[]⟩)
  (kF:PySem.W.KeysLit w.params eF.toList) (kM:PySem.W.KeysLit w.params eM.toList) (zF:(aF==VF)=Vh) (zM:(Z==VF)=Vh)
  (fF:∀x∈FRM,TZn K aF x.1 (x.2.map Kd.t)) (fM:∀p∈MKP,∃m,PySem.W.nsIn K VG p.2=u_ (u_ (.ref m))/\PySem.W.nsIn K Z p.1=u_ (u_ (.ref m))) (oM:∀z∈AbN,PySem.W.nsIn K Z z=u_ U_)
  (kk:eF.toList.map Abc=FRM.map λx=>u_ x.1)
  (g1:#[K,"BadRule"]=u_ (u_ (.ref O))) (b1:PySem.W.excIn K O VE "ValueError.__new__"=v_)
  (g2:#[K,"BadName"]=u_ (u_ (.ref U))) (b2:PySem.W.excIn K U VE "ValueError.__new__"=v_):∃g,Fx K w mg g a:=by
 exists ⟨aB,aA,aF,Z,O,U⟩,⟨uT X G gB,uT X G gA,uT X G gF,uT X G gM,λH=>lB.sq (),λH=>lA.sq (),⟨zF,eF,nF,lF,kF⟩,λx hx=>?_,⟨zM,eM,nM,lM,kM⟩,mk1 X G (fM ("text","text_made") ()) T.ll.m,mk1 X G (fM ("self","self_made") ()) T.lp.m,mk1 X G (fM ("copy","copy_made") ()) T.lE.m,mk1 X G (fM ("row","row_made") ()) T.lP.m,mk1 X G (fM ("put","put_made") ()) T.lR.m,mk1 X G (fM ("join","join_made") ()) T.lC.m,mk1 X G (fM ("first","first_made") ()) T.iY.m,mk1 X G (fM ("rest","rest_made") ()) T.lr.m,mk1 X G (fM ("size","size_made") ()) T.lm.m,mk1 X G (fM ("cut","cut_made") ()) T.lS.m,mk1 X G (fM ("glue","glue_made") ()) T.lD.m,oM,λz hz=>none_of lF kk hz,uT X G g1,b1,uT X G g2,b2⟩
 erw[fF x hx,q,h1,h2];exact⟨q,h1,λH=>by rw[zE];exact h2.sq (by rw[u9];exact uL (BK x hx) ())⟩
end K22
open PySem PySem.W PyProof.Rows L2
set_option maxRecDepth 100000 in
set_option maxHeartbeats 0 in
theorem PySem.Challenge.cw_askwright_k22_chains_and_rings_holds : PySem.Challenge.rw_askwright_k22_chains_and_rings.Holds := by
 w_on;o_law;k_head;(case hw=>w_witness2)
 k_fill
 refine L2.IJ (l:=PySem.Challenge.rw_askwright_k22_chains_and_rings) (n:=63) (k:=18) (x:="script") (CX:=L2.CX0) (sp:=K22.Mx) rfl (by decide) rfl ⟨rfl,by decide,by decide⟩ (fun w h Y=>PySem.W.kIn_of Y) ?F ?S ?C
 case F=>
  intro w mg fa h KX G hmg
  have T:∃a,K22.Tx (L2.KOf KX) mg a:=by
   try dsimp only [L2.KOf]
   refine' K22.Acf KX G ..
   all_goals first|exact⟨by k_is,_,_,_,_,_,_,_,_,_,by k_is,by k_is,by k_is⟩|exact⟨by k_is,by k_is,_,_,_,_,_,_,_,_,_,by k_is,by k_is,by k_is⟩|(show _=_;k_is)|exact⟨by k_is,by k_is,by k_is,by k_is⟩|exact⟨by k_is,by k_is⟩|(intro x hx;simp only [uC,vk,uP] at hx;rcases hx with rfl|rfl|rfl|rfl|rfl|rfl|rfl|rfl|rfl|rfl|rfl|rfl|rfl|rfl|rfl|rfl|rfl<;>k_is)|skip
  erw[T,a,T]
  have C:∃g,K22.Fx (L2.KOf KX) w mg g a:=by
   try dsimp only [L2.KOf] at T⊢
   refine' K22.Ac2 T KX G (kF:= ?kF) (kM:= ?kM) (fF:= ?fF) (fM:= ?fM) (oM:= ?oM) (kk:= ?kk) (b1:= ?b1) (b2:= ?b2) ..
   all_goals try (first|(show _=u_ (u_ _);k_is)|(show _=u_ (Obj.mk _ _ _ _);k_is)|exact⟨_,_,_,_,by k_is,rfl⟩)
   (case kF=>(repeat (first|exact trivial|refine[⟨_,_,rfl,rfl⟩:?_])));(case kM=>(repeat (first|exact trivial|refine[⟨_,_,rfl,rfl⟩:?_])))
   case fF=>
    intro x hx
    unfold FRM at hx
    simp only [uC,vk,uP] at hx
    rcases hx with rfl|rfl|rfl|rfl|rfl|rfl|rfl|rfl|rfl|rfl|rfl|rfl|rfl|rfl|rfl|rfl|rfl|rfl|rfl|rfl<;>exact⟨_,by k_is,_,_,_,_,by k_is,rfl⟩
   case fM=>
    intro x hx
    unfold K22.MKP at hx
    simp only [uC,vk,uP] at hx
    rcases hx with rfl|rfl|rfl|rfl|rfl|rfl|rfl|rfl|rfl|rfl|rfl<;>exact⟨_,by k_is,by k_is⟩
   case oM=>
    intro x hx
    unfold K22.AbN at hx
    simp only [uC,vk,uP] at hx
    rcases hx with rfl|rfl|rfl|rfl|rfl|rfl|rfl|rfl|rfl<;>k_is
   (case kk=>rfl);(case b1=>k_exc);(case b2=>k_exc)
   all_goals rfl
  erw[C,g,C]
  have e0:=hmg.symm.trans T.BH.m
  cases e0
  exact⟨_,T.BH.law (fun _ _ _ _ _ _ _=>rfl),(by erw[T.BH.F.ex,_,_,_,_,_,_,_,_,_,e,_];rw [e];rfl),fun base kb nb=>K22.AaQ T C⟩
 case S=>exact fun w H a ns hl hO hS=>⟨a,ns,rfl,hS,hl,fun _=>rfl⟩
 case C=>exact fun _ _ _ _ z=>z
